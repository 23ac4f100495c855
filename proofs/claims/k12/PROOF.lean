import PyProof.Rows.All
import HandS.ForMost
import HandS.IsInst
import HandS.TupMul
import HandS.TupAny
import HandS.Walk
import HandS.Zip
import PyProof.ReprRoads
import PyProof.ReprBulk
import KE.GoesMore
import PyProof.EnumMake
import HandS.Star
import HandS.Property
import HandS.SortKw
import KE.KOpsOwn
import KE.DataMinMax
import PyProof.InstNe
import HandS.Style
import HandS.DictTup
import PyProof.DictMoreH
import HandS.Iter
import PyProof.Rows.RowBridgeK
import HandS.Wide
import PySem.Challenge.RW_startgaps_k12_laps_fit_and_their_means
import PyProof.Rows.ReprShort
import PyProof.ReprLen
import PyProof.P3Statements
import HandS.FStr
import HandS.Conv
import KE.KTupSum
import HandS.Gcd
set_option Elab.async false
set_option linter.all false
set_option maxRecDepth 100000
set_option maxHeartbeats 4000000
namespace Sg
open PySem PySem.Spec PyProof.Rows L2

/-! ## defs that may ask for a text of data: they run outside of every such text -/
/-- a promise that holds where no text of data is being made -/
structure FnG (P : Program) (w : World) (K : PySem.W.Frag) (mg : Str → Option Value) (base : Heap) (k : Nat) (f : Addr)
    (fd : FuncData) (ps : List Str) (sp : Sp) : Prop where
  arity : ∀ vs H Q, sp vs H Q E0 → vs.length = ps.length
  go : ∀ (A : Around) (outer : List Env) (s : Shared) (H : Hp) (args : Args) (us : List Value) (vs : List V) (Q : VK),
    A.guards = some [] → Room k A → Env0 P w K mg base A outer s H → BindsTo s fd args (ps.zip us) → Vals vs us →
    sp vs H Q E0 → codeAny (model P w) A (.call (.ref f) args) (CR CX0 outer P w H s Q E0) s

section
variable {P : Program} {w : World} {K : PySem.W.Frag} {mg : Str → Option Value} {base : Heap} {k : Nat} {f : Addr}
variable {fd : FuncData} {ps : List Str} {sp : Sp}

theorem FnG.of (F : FnOk P w K mg base CX0 k f fd ps sp) : FnG P w K mg base k f fd ps sp :=
  ⟨fun vs H Q h => F.len vs H Q E0 h, fun A outer s H args us vs Q _ hr e0 hb hv h =>
    F.run A outer s H args us vs Q E0 hr e0 hb hv h⟩

theorem FnG.mono {j : Nat} (F : FnG P w K mg base j f fd ps sp) (h : j ≤ k) : FnG P w K mg base k f fd ps sp :=
  ⟨F.arity, fun A outer s H args us vs Q hg hr => F.go A outer s H args us vs Q hg (hr.mono h)⟩

/-- a def's body, where no text of data is being made -/
theorem fnG_mk {x qual : Str} {st : Stmt} {N : List Str} (F : Fun K x qual st f fd)
    (S : FnScope N ps (defScope st)) (arity : ∀ vs H Q, sp vs H Q E0 → vs.length = ps.length)
    (hbody : ∀ (cdv : Value) (A : Around) (outer : List Env) (s : Shared) (H : Hp) (vs : List V) (Q : VK),
      (A.deeper (envOfC qual (defScope st) s.heap.objs.size f cdv)).guards = some [] →
      Room k (A.deeper (envOfC qual (defScope st) s.heap.objs.size f cdv)) → sp vs H Q E0 →
      ∃ t, PSs (cxOf CX0 P w K mg base N qual (defScope st) f cdv A outer s H E0).nox (defBody st) t ∧
        t { nx := fun _ H' => Q .non H', rt := Q } (start N vs) H) :
    FnG P w K mg base (k + 1) f fd ps sp := by
  obtain ⟨oc, od, kV, doc, pm, an, cdv, ct, osl, rfl, lk, hcd⟩ := F.ex
  refine ⟨arity, ?_⟩
  intro A outer s H args us vs Q hg hr e0 hb r hsp
  have hl := arity _ _ _ hsp
  have hk0 : ∀ b o, base.get? b = some o → s.heap.get? b = some o := fun b o e => (e0.bs b o e).1
  have KX : K.In s.heap := e0.mod.kin.keeps hk0
  have lim : s.heap.NoLimit := e0.mod.nolimit.keeps hk0
  refine codeAny_call_function hr.depth (KX _ _ lk) rfl S.co S.gen rfl (PySem.W.codeRec_of KX hcd) ?_
  refine hb _ _ _ _ (wpAny_newFunctionEnv_cells S.kind ?_ ?_)
  · rintro ⟨n, v⟩ hy
    have hn := S.par n (List.of_mem_zip hy).1
    cases hn with
    | inl q => exact .inl q
    | inr q => exact .inr ⟨q, PySem.W.cellsFrom_some _ _ _ (.inl q)⟩
  · intro env he s1 x
    subst he
    refine ⟨lim.keeps x.toInCall.keep, ?_⟩
    apply codeAny_func
    obtain ⟨t, ht, hq⟩ := hbody cdv A outer s H vs Q hg (hr.deeper _) hsp
    have ht' := ht.nox
    have I := inv_start (CX := CX0) (E := E0) (cd := cdv) (qual := qual) (f := f) S hr.hd e0 hl r x
    refine wpAny_mono (ht'.run [] s1 (start N vs) H _ I hq) ?_ (fun e s' hs => hs)
    intro fl s' hs
    cases fl with
    | ret u =>
      obtain ⟨v, σ', H', J, rv, q⟩ := hs
      exact ⟨v, H', J.os, J.bare, J.base, J.hok, rv, q⟩
    | next =>
      obtain ⟨σ', H', J, q⟩ := hs
      exact ⟨V.non, H', J.os, J.bare, J.base, J.hok, rfl, q⟩
    | brk => obtain ⟨_, _, _, q⟩ := hs; exact q.elim
    | cont => obtain ⟨_, _, _, q⟩ := hs; exact q.elim
end

section
variable {X : Cx} {k : Nat} {f : Addr} {fd : FuncData} {ps : List Str} {sp : Sp} {dvs : List V} {ds : List Value}
variable {x : Str} {p pos : Pos} {e : Expr} {es : List Expr} {t : TA}
/-- f(a, ..) of such a def -/
theorem pe_callG (F : FnG X.prog X.w X.K X.mg X.base k f fd ps sp) (hgd : X.A.guards = some []) (hr : Room k X.A)
    (hg : Gl X x) (hm : X.mg x = some (.ref f)) (hk : PySem.W.keepIn X.K (.ref f) = true) (hb : Binds X.K fd ps [])
    (ha : PA X (e :: es) t) (hdb : (x == ("__debug__" : Str)) = false := by decide)
    (he : starEach (e :: es) X.env = (false, eval e X.env) :: starEach es X.env := by rfl)
    (hpl : (backTo pos (starEach es X.env)).any (·.1) = false := by rfl) :
    PE X (.Call (.Name x p) (e :: es) [] pos) (tCall sp [] E0 t) := by
  constructor
  intro pins s σ H Q I h
  refine wpAny_Call_Name_kw (ld_glob I hg hm (PySem.W.callWith_K (h₀ := X.base) I.ok.mod.kin hk ?_ he hpl) hdb)
  refine thn (ha.run pos pins s σ H _ I h) ?_
  rintro us s1 ⟨vs, H1, I1, r, q⟩
  refine ⟨I1.kIn, ?_⟩
  rw [List.append_nil] at q
  have hl : (us ++ []).length = ps.length := by rw [List.append_nil, ← r.length]; exact F.arity _ _ _ q
  have hbb := hb s1 us I1.kIn hl
  rw [List.append_nil] at hbb
  refine wpAny_call (codeAny_mono (F.go X.A X.stack s1 H1 ⟨us, []⟩ us vs Q hgd hr I1.env0 hbb r q) ?_)
  intro r' s' hq
  match r', hq with
  | .error _, hq => exact hq.elim
  | .ok (.ret _), hq => exact I1.after hq
  | .ok .next, hq => exact hq.elim
  | .ok .brk, hq => exact hq.elim
  | .ok .cont, hq => exact hq.elim

/-! ## repr of data -/
/-- what may be shown: its ints are not too great, and the text is not too long -/
def Shows (d : PyData) : Prop := d.showable = true ∧ d.hasDict = false ∧ d.depth ≤ 40 ∧ d.shown.length ≤ sizeLine
theorem call_reprD {j : Nat} (hgd : X.A.guards = some []) (hr : Room j X.A) :
    CallR X (.builtin "repr") (fun xs H Q => ∃ a d, xs = [.ref a] ∧ Dp X.K H (.ref a) d ∧ Shows d ∧ Q (.str d.shown) H) := by
  intro pins s σ H xs us Q I r h
  obtain ⟨a, d, rfl, hd, ⟨h1, h2, h3, h4⟩, q⟩ := h
  obtain ⟨u, rfl, rfl⟩ := vals1 r
  obtain ⟨as, rd⟩ := Dp.reads I d (.ref a) (.ref a) hd rfl
  have hu := hr.units
  refine repr_of_reads' (h₀ := s.heap) rd h1 (fun z => ?_) hgd (by omega) (fun _ _ z => z) (fun h' u tk hk => ?_) h4
  · rw [h2] at z; cases z
  · exact ⟨.str d.shown, H, I.kept hk, ⟨u, rfl⟩, q⟩
end
end Sg

set_option Elab.async false
set_option linter.all false
set_option maxRecDepth 100000
set_option maxHeartbeats 4000000
namespace Sg
open PySem PySem.Spec PyProof.Rows L2
/-! ## the law's own call -/
section
variable {P : Program} {w : World} {K : PySem.W.Frag} {mg mb : Str → Option Value} {k : Nat} {fa a : Addr}
variable {fd : FuncData} {x : Str} {sp : Sp} {s₁ : Shared} {vs : List Value} {ns : List Int}

/-- what is asked of the law's call -/
abbrev Ended (s₁ : Shared) : Result → Shared → Prop := fun r s' =>
  r = .ok (.ret (.bool true)) ∧ OldK s₁.heap s'.heap ∧ s'.os = s₁.os ∧ AllBare s'.gens

theorem call_from {H : Hp} (KX : K.In s₁.heap) (hns : s₁.heap.Ns mainGlobals mg) (hb : s₁.heap.Ns builtinsNs mb)
    (hbb : ∀ x : Str, x ≠ "__name__" → mb x = bootBuiltins x) (hlim : s₁.heap.NoLimit) (hg : s₁.gens = #[])
    (ha : s₁.heap.get? a = some { cls := .type "list", data := .seq vs.toArray }) (hr : Room k callerA)
    (F : ∀ base : Heap, K.In base → base.Ns mainGlobals mg → FnG P w K mg base k fa fd [x] sp)
    (hbind : ∀ (s : Shared) (u : Value), BindsTo s fd ⟨[u], []⟩ [(x, u)])
    (hsp : sp [.ref a] H (fun v _ => v = .bl true) E0) (hO : Only H) (hok : HOk P w H s₁.heap)
    (hA : ∀ b, H b ≠ none → b = a) (hK : H a ≠ none → K.lookup a = none) :
    codeAny (model P w) callerA (.call (.ref fa) ⟨[.ref a], []⟩) (Ended s₁) s₁ := by
  have only : ∀ {b : Addr} {u : HO}, H b = some u → b = a := fun z => hA _ (by rw [z]; exact fun q => nomatch q)
  have free : ∀ {b : Addr} {o : Obj} {es : Array DictEntry} {ep : Nat},
      s₁.heap.get? b = some o → o.data = .dict es ep → H b = none := by
    intro b o es ep e d
    rcases q : H b with _ | u
    · rfl
    · rw [only q, ha] at e
      have e' := Option.some.inj e
      rw [← e'] at d
      exact nomatch d
  have nsK : ∀ {b : Addr} {m : Str → Option Value}, s₁.heap.Ns b m → (hidT s₁.heap H).Ns b m := by
    rintro b m ⟨o, es, ep, e, d, r⟩
    exact ⟨o, es, ep, hidT_get e (free e d), d, r⟩
  have hKb : K.In (hidT s₁.heap H) := by
    intro b o e
    refine hidT_get (KX b o e) ?_
    rcases q : H b with _ | u
    · rfl
    · have e' := only q
      subst e'
      have z := hK (by rw [q]; exact fun q => nomatch q)
      rw [z] at e
      exact nomatch e
  have hM : Mod K mg (hidT s₁.heap H) := by
    refine ⟨hKb, nsK hns, ⟨mb, nsK hb, hbb⟩, ?_⟩
    obtain ⟨mc, h1, h2⟩ := hlim
    exact ⟨mc, nsK h1, h2⟩
  have e0 : Env0 P w K mg (hidT s₁.heap H) callerA [] s₁ H := by
    refine ⟨rfl, hM, fun b o e => of_hidT e, Nat.le_of_eq (hidT_size _ _), trivial, ?_, hok, .of_eq hg⟩
    intro b hb
    have hb' : b ∈ ([] : List Addr) := hb
    exact nomatch hb'
  have run := (F _ hKb (nsK hns)).go callerA [] s₁ H ⟨[.ref a], []⟩ [.ref a] [.ref a] _ rfl hr e0
    (hbind s₁ (.ref a)) (.cons rfl .nil) hsp
  refine codeAny_mono run ?_
  intro r s' h
  match r, h with
  | .error _, h => exact h.elim
  | .ok .next, h => exact h.elim
  | .ok .brk, h => exact h.elim
  | .ok .cont, h => exact h.elim
  | .ok (.ret u), h =>
    obtain ⟨v, H', os, bare, un, hok', r', q⟩ := h
    have q' : v = .bl true := q
    subst q'
    have eu : u = Value.bool true := r'
    subst eu
    refine ⟨rfl, OldK.of_keep ?_, os, bare⟩
    intro b o e
    rcases q : H b with _ | u
    · refine un.keep b o e q (fun z => ?_) (fun z => nomatch z)
      have z' : b ∈ ([] : List Addr) := z
      exact nomatch z'
    · rcases hO b with z | ⟨ob, xs, z⟩
      · rw [q] at z; exact nomatch z
      · obtain ⟨e1, _⟩ := hok b _ z
        obtain ⟨e2, _⟩ := hok' b _ (un.frzs b ob _ z)
        rw [e] at e1
        rw [e2, Option.some.inj e1]

theorem call_law (KX : K.In s₁.heap) (hns : s₁.heap.Ns mainGlobals mg) (hb : s₁.heap.Ns builtinsNs mb)
    (hbb : ∀ x : Str, x ≠ "__name__" → mb x = bootBuiltins x) (hlim : s₁.heap.NoLimit) (hg : s₁.gens = #[])
    (ha : s₁.heap.get? a = some { cls := .type "list", data := .seq vs.toArray }) (hi : IntsAre vs ns)
    (hl : ns.length ≤ sizeLine) (hr : Room k callerA)
    (F : ∀ base : Heap, K.In base → base.Ns mainGlobals mg → FnG P w K mg base k fa fd [x] sp)
    (hbind : ∀ (s : Shared) (u : Value), BindsTo s fd ⟨[u], []⟩ [(x, u)])
    (hsp : ∀ H : Hp, Only H → SqL K H a (ns.map V.int) → sp [.ref a] H (fun v _ => v = .bl true) E0) :
    codeAny (model P w) callerA (.call (.ref fa) ⟨[.ref a], []⟩) (Ended s₁) s₁ := by
  have rv := vals_ints hi
  have lenV := hi.length
  rcases hk : K.lookup a with _ | o
  · let H : Hp := fun b => if b = a then some (.frz { cls := .type "list", data := .seq vs.toArray } (.lst (ns.map V.int))) else none
    have at_a : H a = some (.frz { cls := .type "list", data := .seq vs.toArray } (.lst (ns.map V.int))) := if_pos rfl
    have off : ∀ b, b ≠ a → H b = none := fun b hb => if_neg hb
    have onlyH : Only H := by
      intro b
      by_cases hb : b = a
      · exact .inr ⟨_, _, if_pos hb⟩
      · exact .inl (off b hb)
    refine call_from (H := H) KX hns hb hbb hlim hg ha hr F hbind (hsp H onlyH (.inl (.inr ⟨_, at_a⟩))) onlyH ?_ ?_ (fun _ => hk)
    · intro b u z
      by_cases hb : b = a
      · subst hb
        rw [at_a] at z
        obtain rfl := Option.some.inj z
        exact ⟨ha, by rw [List.length_map]; exact hl, vs, _, rv, ha⟩
      · rw [off b hb] at z; exact nomatch z
    · intro b z
      by_cases hb : b = a
      · exact hb
      · exact absurd (off b hb) z
  · have e := KX a o hk
    rw [ha] at e
    obtain rfl := Option.some.inj e
    refine call_from (H := fun _ => none) KX hns hb hbb hlim hg ha hr F hbind (hsp _ (fun _ => .inl rfl) (.inr ?_)) (fun _ => .inl rfl)
      (fun b u z => nomatch z) (fun b z => absurd rfl z) (fun z => absurd rfl z)
    exact ⟨_, vs.toArray, _, hk, rfl, rfl, rfl, by rw [List.size_toArray, lenV]; exact hl, rv⟩
end

/-- the end of a law's proof -/
theorem walk_law {l : PySem.W.OpenLaw} {k : Nat} {q : Program} {loose : List Str} {XP : (Str → Option Value) → Heap → Prop}
    {YP : World → Heap → Prop} {d : DefRec} {K : Params → PySem.W.Frag} {sp : PySem.W.Frag → Sp} {x : Str}
    (hn : l.most = some 63) (hdf : d.params.defaults = []) (hr : Room k callerA)
    (hY : ∀ (w : World) (h : Heap), YP w h → (K w.params).In h)
    (F : ∀ (w : World) (mg : Str → Option Value) (fa : Addr) (h : Heap), (K w.params).In h → h.Ns mainGlobals mg →
      mg d.name = some (.ref fa) → ∃ fd : FuncData, (∀ (s : Shared) (u : Value), BindsTo s fd ⟨[u], []⟩ [(x, u)]) ∧
        ∀ base : Heap, (K w.params).In base → base.Ns mainGlobals mg →
          FnG l.prog w (K w.params) mg base k fa fd [x] (sp (K w.params)))
    (hsp : ∀ (K : PySem.W.Frag) (H : Hp) (a : Addr) (ns : List Int), ns.length ≤ 63 → Only H → SqL K H a (ns.map V.int) →
      sp K [.ref a] H (fun v _ => v = .bl true) E0) :
    PySem.W.WalkO q loose XP YP l.row.toRowW d [] (fun f vs => PySem.call f vs) := by
  refine Att.attach_call hn hdf ?_
  intro w s₀ s₁ mg mb fa o pm cd doc a vs ns G Y ho hd hcd hmg hobj hints hlen hg
  obtain ⟨fd, hb, hF⟩ := F w mg fa _ (hY w _ Y) G.T.g hmg
  exact call_law (hY w _ Y) G.T.g G.T.b G.T.builtins G.T.nolimit hg hobj hints
    (Nat.le_trans hlen (by decide)) hr hF hb (fun H hO hS => hsp _ H a ns hlen hO hS)
end Sg

set_option Elab.async false
set_option linter.all false
set_option maxRecDepth 100000
set_option maxHeartbeats 4000000
namespace PySem
open Sem (wp)
open AutoSeq1 (wpAny_loadPart')
/-- enumerate(t), t a tuple: its two new cells -/
theorem sg_enum_new (l : Addr) (items : Array Value) :
    Meets (Builtin.«enumerate.__new__» ⟨[.type "enumerate", .ref l], []⟩) (fun _ R s => s.heap.IsTuple l items ∧
      R (.ok (.ret (.ref (s.heap.push { cls := .type "tuple_iterator", data := .fields #[.ref l, .int 0 0] }).objs.size)))
        { s with heap := ((s.heap.push { cls := .type "tuple_iterator", data := .fields #[.ref l, .int 0 0] }).push { cls := .type "enumerate", data := .fields #[.none, .bool false, .ref s.heap.objs.size, rawInt 0, .none, .none] }) }) := by
  refine .of_wp ?_
  intro prog w A R s h
  obtain ⟨hp, g, d, tk, os⟩ := s
  obtain ⟨hT, h⟩ := h
  obtain ⟨o, hl, hc, n, hd⟩ := id hT
  have hsub := sub_enumerate
  wp_walk using wpAny_loadPart' hl
  refine wpAny_stack_any fun st => wpAny_pure ?_
  split
  · rename_i c _ _ _ _ _
    rcases hcc : (c == Value.type "enumerate") with _ | _ <;>
    · wp_walk using wpAny_loadPart' hl, wpAny_pyIter_tuple hT
      exact ⟨_, rfl, h⟩
  · wp_walk using wpAny_loadPart' hl, wpAny_pyIter_tuple hT
    exact ⟨_, rfl, h⟩

section
variable {prog : Program} {w : World} {A : Around} {E : Value → Shared → Prop} {s : Shared}
theorem sg_call_enum {l : Addr} {items : Array Value} {Q : Value → Shared → Prop} (hL : s.heap.IsTuple l items)
    (h : ∀ h', IsEnum h' (s.heap.objs.size + 1) s.heap.objs.size 0 .none → h'.IsTupleIter s.heap.objs.size l 0 →
      (∀ b o, s.heap.get? b = some o → h'.get? b = some o) → Q (.ref (s.heap.objs.size + 1)) { s with heap := h' }) :
    wpAny (model prog w) A (call (.type "enumerate") [.ref l]) Q E s := by
  refine callType_new F.called_enumerate (by decide) (F.typeCall_enumerate_1 _) (F.newCall_enumerate_1 _)
    (fun obj => F.args_object_init_2 obj _) F.entry_enumerate_new (sg_enum_new l items) ⟨hL, ?_⟩
  let o1 : Obj := { cls := .type "tuple_iterator", data := .fields #[.ref l, .int 0 0] }
  have hz : (s.heap.push o1).objs.size = s.heap.objs.size + 1 := Heap.size_push ..
  show _ ∧ _
  rw [hz]
  have he : IsEnum ((s.heap.push o1).push { cls := .type "enumerate", data := .fields #[.none, .bool false, .ref s.heap.objs.size, rawInt 0, .none, .none] })
      (s.heap.objs.size + 1) s.heap.objs.size 0 .none := by
    have z := Heap.get?_push_size (s.heap.push o1)
      (o := { cls := .type "enumerate", data := .fields #[.none, .bool false, .ref s.heap.objs.size, rawInt 0, .none, .none] }) rfl
    rw [hz] at z
    exact z
  refine ⟨⟨_, he, rfl⟩, h _ he ⟨_, Heap.get?_push_of_some _ (Heap.get?_push_size _ rfl), rfl, rfl⟩ ?_⟩
  intro b o x
  exact Heap.get?_push_of_some _ (Heap.get?_push_of_some _ x)
end
end PySem
namespace Sg
open PySem PySem.Spec PyProof.Rows L2
/-- the tuple at a, item by item, each in a new pair with its place -/
def ItE (K : PySem.W.Frag) (a : Addr) : It :=
  ⟨fun i H => ∃ (xs : List V) (x : V), SqT K H a xs ∧ xs[i]? = some x,
   fun i H v H' => ∃ T x, v = .ref T ∧ H T = none ∧ H' = upd H T (.tup [.int (i : Nat), x]) ∧ ∀ xs, SqT K H a xs → xs[i]? = some x,
   fun i H => ∃ xs : List V, SqT K H a xs ∧ xs.length ≤ i⟩
theorem turn_enumT {P : Program} {w : World} {K : PySem.W.Frag} {elts : List Expr} {kk : Nat} {tpos : Pos} (a e it : Addr) :
    Turn P w K (.Tuple elts kk tpos) (ItE K a) [e, it] e
      (fun i h => (∃ old, IsEnum h e it ((i : Nat) : Int) old) ∧ h.IsTupleIter it a i ∧ e ≠ it) := by
  have two : ∀ {b : Addr}, b ∈ [e, it] → b = e ∨ b = it := fun {b} hb => by simpa using hb
  refine ⟨by simp, ?_, ?_, ?_, ?_, ?_⟩
  · rintro i h ⟨⟨old, he⟩, ⟨o, ho, hc, hd⟩, _⟩ b hb
    rcases two hb with rfl | rfl
    · exact ⟨_, he, fun v q => nomatch q⟩
    · refine ⟨o, ho, fun v q => ?_⟩
      rw [hd] at q
      exact nomatch q
  · rintro i h h' ⟨⟨old, he⟩, hi, hne⟩ k
    exact ⟨⟨old, k e (by simp) _ he⟩, hi.at fun o q => k it (by simp) o q, hne⟩
  · intro X hP hw hK hc i pins s σ H E I hf st hg
    subst hP hw hK
    obtain ⟨⟨old, he⟩, hit, hne⟩ := st
    obtain ⟨xs, x, hq, hx⟩ := hg
    obtain ⟨its, rv, p, hz⟩ := I.tuple hq
    obtain ⟨u, hu, ru⟩ := rv.get hx
    have hel : e < s.heap.objs.size := Heap.lt_size he
    have hil : it < s.heap.objs.size := by obtain ⟨_, q, _⟩ := hit; exact Heap.lt_size q
    have hai : a ≠ it := by
      rintro rfl
      obtain ⟨o, ho, hcl, _⟩ := p
      obtain ⟨o', ho', hcl', _⟩ := hit
      rw [ho] at ho'
      obtain rfl := Option.some.inj ho'
      rw [hcl] at hcl'
      exact absurd hcl' (by decide)
    have hae : e ≠ a := by
      rintro rfl
      obtain ⟨o, ho, hcl, _⟩ := p
      have he' : s.heap.get? e = _ := he
      rw [ho] at he'
      obtain rfl := Option.some.inj he'
      have z : ("enumerate" : String) = "tuple" := Value.type.inj hcl
      exact absurd z (by decide)
    have hlt : i < its.length := (List.getElem?_eq_some_iff.mp hu).1
    refine wpAny_pyNext_enum_itemD (Draws.tuple (A := X.A.in1) (I.ok.hd hc) it a hai its.toArray) he ⟨hit, p⟩
      (by simpa using hlt) hne (by simp [hne, hae]) ?_
    intro x' h' tk hP ho hs' hT hsz hk
    have hxu : x' = u := by
      have z : its[i]? = some x' := by simpa using hP
      rw [hu] at z
      exact (Option.some.inj z).symm
    subst hxu
    refine ⟨_, rfl, wpAny_letOwnedTupleGo_enum (s := { s with heap := h', toks := tk + 1 }) ho ?_⟩
    intro h'' he' sb
    have hT2 : h''.get? s.heap.objs.size = some { cls := .type "tuple", data := .seq #[.int i tk, x'] } :=
      (sb.2 _ (Nat.ne_of_gt hel)).trans hT
    have new : ObjOk X.prog X.w (upd H s.heap.objs.size (.tup [.int (i : Nat), x])) h'' s.heap.objs.size (.tup [.int (i : Nat), x]) := by
      refine ⟨by show 2 ≤ sizeLine; decide, [.int i tk, x'], .cons ⟨_, rfl⟩ (.cons ru .nil), ⟨_, hT2, rfl, _, rfl⟩⟩
    have I1 : Inv X pins σ (upd H s.heap.objs.size (.tup [.int (i : Nat), x])) { s with heap := h'', toks := tk + 1 } := by
      refine I.turnedNew (ch := [e, it]) ?_ hf (Nat.le_refl _) new
      intro b ob hb q
      have n1 : b ≠ e := fun z => hb (by simp [z])
      have n2 : b ≠ it := fun z => hb (by simp [z])
      exact (sb.2 b n1).trans (hk b ob n1 n2 q)
    refine ⟨.ref s.heap.objs.size, _, I1, rfl, ⟨_, x, rfl, I.hok.fresh (Nat.le_refl _), rfl, ?_⟩, ⟨⟨x', ?_⟩, ?_, hne⟩, ?_⟩
    · intro ys hy
      rw [I.tuple_inj hy hq]
      exact hx
    · have e1 : ((i + 1 : Nat) : Int) = (i : Int) + 1 := by omega
      rw [e1]
      exact he'
    · exact hs'.1.at fun o q => (sb.2 it (Ne.symm hne)).trans q
    · intro b hb
      have hb' : b < s.heap.objs.size := by
        rcases two hb with rfl | rfl
        · exact hel
        · exact hil
      rw [upd_ne (Nat.ne_of_lt hb')]
      exact (hf b hb).1
  · intro X hP hw hK hc i pins s σ H E I hf st hg
    subst hP hw hK
    obtain ⟨⟨old, he⟩, hit, hne⟩ := st
    obtain ⟨xs, hq, hx⟩ := hg
    obtain ⟨its, rv, p, hz⟩ := I.tuple hq
    obtain ⟨f0, f1, f2, f3, f4, f5⟩ := hf it (by simp)
    have hl := rv.length
    have hh : X.A.in1.in1.handled = none := I.ok.hd hc
    have hai : a ≠ it := by
      rintro rfl
      obtain ⟨o, ho, hcl, _⟩ := p
      obtain ⟨o', ho', hcl', _⟩ := hit
      rw [ho] at ho'
      obtain rfl := Option.some.inj ho'
      rw [hcl] at hcl'
      exact absurd hcl' (by decide)
    unfold pyNext
    have hTy : s.TypeIs (.ref e) "enumerate" := ⟨_, he, rfl⟩
    refine wpAny_bind (wpAny_attempt (wpAny_callSpecial?_slot (name := Str.ofString "__next__") hTy F.slot_enumerate_next
      (wpAny_call_entry F.slot_enumerate_next hTy F.entry_enumerate_next ?_ (F.args_enumerate_next_1 _))))
    show wpAny _ _ (field (.ref e) 2 >>= _) _ _ _
    refine wpAny_bind (wpAny_field he rfl (x := .ref it) rfl ?_)
    refine wpAny_bind (wpAny_nextOf_tuple_end hh hit p (by simp; omega) ?_)
    rintro h' x he' ⟨o, ho, hcl⟩
    refine wpAny_bind (wpAny_isInstance (T := "StopIteration") (b := true) ⟨o, ho, hcl⟩ isSubtype_stop (wpAny_pure ?_))
    exact ⟨rfl, I.turned (t' := s.toks) (fun b o hb q => he' b o hb q) f0 f1 f3 f4 f5⟩
  · intro A i s Q E st h
    obtain ⟨⟨_, he⟩, _⟩ := st
    exact wpAny_pyIter_enum he h
def iEnT (K : PySem.W.Frag) (ta : TA) : TI := fun σ H R => ta σ H fun vs H1 => ∃ a xs, vs = [.ref a] ∧ SqT K H1 a xs ∧ R (ItE K a) H1
theorem pi_enumT {X : Cx} {e : Expr} {ta : TA} {p pos tpos : Pos} {elts : List Expr} {kk : Nat} (hg : Gl X "enumerate")
    (hm : X.mg "enumerate" = none) (ha : PA X [e] ta) (hs : starEach [e] X.env = [(false, eval e X.env)] := by rfl) :
    PI X (.Tuple elts kk tpos) (.Call (.Name "enumerate" p) [e] [] pos) (iEnT X.K ta) := by
  constructor
  intro pins s σ H R I h
  refine Call_ (ld_blt I hg hm boot_enumerate (PyProof.Rows.callWith_type1 (thn (ha.run pos pins s σ H _ I h) ?_) hs rfl))
  rintro us s1 ⟨vs, H1, I1, r1, a, xs, rfl, hq, q⟩
  obtain ⟨u, rfl, rfl⟩ := vals1 r1
  obtain ⟨its, rv, p', hz⟩ := I1.tuple hq
  refine sg_call_enum p' ?_
  intro h' he hit hk
  refine wpAny_pyIter_enum he ?_
  have I2 : Inv X pins σ H1 { s1 with heap := h' } := I1.kept (t' := s1.toks) hk
  refine ⟨s1.heap.objs.size + 1, [s1.heap.objs.size + 1, s1.heap.objs.size], _, _, H1, rfl, I2,
    turn_enumT a (s1.heap.objs.size + 1) s1.heap.objs.size, ⟨⟨.none, he⟩, hit, Nat.succ_ne_self _⟩, ?_, q⟩
  intro b hb
  have hle : s1.heap.objs.size ≤ b := by
    have e' : b = s1.heap.objs.size + 1 ∨ b = s1.heap.objs.size := by simpa using hb
    rcases e' with rfl | rfl
    · exact Nat.le_succ _
    · exact Nat.le_refl _
  exact I1.fpOk hle (I1.hok.fresh hle)
end Sg

set_option Elab.async false
set_option linter.all false
set_option maxRecDepth 100000
set_option maxHeartbeats 4000000
namespace Sg
open PySem PySem.Spec PyProof.Rows L2
/-! ## [c for a in t for b in a for c in b], tuples all the way down -/
/-- slots that agree but for those of ws -/
def Ag (ws : List Nat) (σ σ' : L2.St) : Prop := σ'.length = σ.length ∧ ∀ j, j ∉ ws → σ'[j]? = σ[j]?
theorem Ag.refl (ws : List Nat) (σ : L2.St) : Ag ws σ σ := ⟨rfl, fun _ _ => rfl⟩
theorem Ag.trans {ws : List Nat} {a b c : L2.St} (h : Ag ws a b) (k : Ag ws b c) : Ag ws a c := ⟨k.1.trans h.1, fun j hj => (k.2 j hj).trans (h.2 j hj)⟩
theorem Ag.set {ws : List Nat} {σ : L2.St} {k : Nat} {v : Option V} (hk : k ∈ ws) : Ag ws σ (σ.set k v) := ⟨List.length_set, fun j hj => by
  rw [List.getElem?_set_ne]
  rintro rfl
  exact hj hk⟩
theorem Ag.mono {ws us : List Nat} {σ σ' : L2.St} (h : Ag ws σ σ') (k : ∀ j ∈ ws, j ∈ us) : Ag us σ σ' := ⟨h.1, fun j hj => h.2 j fun z => hj (k j z)⟩
/-- a turn of a loop of a comprehension without tests -/
def flatTurn (e : Expr) (d : Nat) (it D : Addr) (n : Str) (p pos : Pos) (bd : Sem Fin → Sem Fin) (env : Env) : Sem Fin :=
  standAt pos >>= fun _ => pyNext (.ref it) >>= fun r => match r with
    | none => pure (.done .next)
    | some v => letOwnedTupleGo (.Name n p) (.ref it) v >>= fun _ => assign (.Name n p) env v >>= fun _ =>
      bd (again (.compLoop e d (.ref it) (.ref D) env))
section
variable {Z : Cx} {elt : Expr} {gens : List Comprehension} {scope : Scope} {cpos p pos : Pos} {d k : Nat} {it D c : Addr} {n : Str} {bd : Sem Fin → Sem Fin}
variable {R : Result → Shared → Prop} {xs : List V} {pins : List (Addr × Obj)} {ws : List Nat}
theorem flat_loop (hxe : Z.xe = fun _ _ => False) (hcalm : Z.calm = true) (hN : Z.N.Nodup)
    (hturn : compTurn (.ListComp elt gens scope cpos) d (.ref it) (.ref D) Z.env = flatTurn (.ListComp elt gens scope cpos) d it D n p pos bd Z.env)
    (hk : Z.N[k]? = some n) (hloc : Loc Z.env.scope n) (hfn : Z.fn n = true ∨ Z.env.scope.names.lookup n = some .local) (hkw : k ∈ ws)
    (σ : L2.St) (G : Nat → Hp → Prop) (hG : ∀ i H, i ≤ xs.length → G i H → SqT Z.K H c xs) (hfp : ∀ H, H it = none → FpOk Z pins H it)
    (hbd : ∀ i x s σ' H, xs[i]? = some x → G i H → H it = none → Inv Z (pins ++ pinsAt [it] s.heap) σ' H s → σ'[k]? = some (some x) → Ag ws σ σ' →
      ∀ (kk : Sem Fin) (Qf : Fin → Shared → Prop) (Ef : Value → Shared → Prop),
        (∀ s' σ'' H', Inv Z (pins ++ pinsAt [it] s.heap) σ'' H' s' → Ag ws σ σ'' → G (i + 1) H' → wpAny (model Z.prog Z.w) Z.A kk Qf Ef s') → wpAny (model Z.prog Z.w) Z.A (bd kk) Qf Ef s)
    (hfin : ∀ s' σ' H', Inv Z pins σ' H' s' → Ag ws σ σ' → G xs.length H' → R (.ok .next) s')
    {s : Shared} {σ₀ : L2.St} {H₀ : Hp} (I₀ : Inv Z pins σ₀ H₀ s) (ag₀ : Ag ws σ σ₀) (g₀ : G 0 H₀) (n₀ : H₀ it = none) (st₀ : s.heap.IsTupleIter it c 0) :
    codeAny (model Z.prog Z.w) Z.A (.compLoop (.ListComp elt gens scope cpos) d (.ref it) (.ref D) Z.env) R s := by
  have T := turn_tuple (P := Z.prog) (w := Z.w) (K := Z.K) (tg := .Name n p) c it
  have hb1 : ∀ {H : Hp}, H it = none → ∀ b ∈ [it], FpOk Z pins H b := by
    intro H hn b hb
    rw [List.mem_singleton.mp hb]
    exact hfp H hn
  refine codeAny_loop rfl (fun m s' => ∃ i σ' H', Inv Z pins σ' H' s' ∧ Ag ws σ σ' ∧ G i H' ∧ H' it = none ∧ s'.heap.IsTupleIter it c i ∧ i ≤ xs.length ∧ m = xs.length - i) ?_ xs.length
    ⟨0, σ₀, H₀, I₀, ag₀, g₀, n₀, st₀, Nat.zero_le _, rfl⟩
  rintro m s1 ⟨i, σ1, H1, I1, ag1, g1, n1, st1, hi, rfl⟩
  show wpAny _ Z.A ((compTurn (.ListComp elt gens scope cpos) d (.ref it) (.ref D) Z.env).onRaise (fun x => do noteFrame x Z.env; theTreesLotGoes x)) _ _ s1
  refine wpAny_noted ?_
  rw [hturn]
  refine wpAny_bind (wpAny_standAt (wpAny_bind ?_))
  have hq := hG i H1 hi g1
  by_cases hlt : i < xs.length
  · have go := T.item Z rfl rfl rfl hcalm i pins s1 σ1 H1 (fun _ _ => False) I1 (hb1 n1) st1 ⟨xs, xs[i], hq, List.getElem?_eq_getElem hlt⟩
    refine thnF go ?_
    rintro r s2 ⟨u, rfl, h2⟩
    refine wpAny_bind (thnF h2 ?_)
    rintro _ s3 ⟨x, H3, I3, r3, ⟨eH, hy⟩, st3, n3⟩
    subst eH
    have hx : xs[i]? = some x := hy xs hq
    have n3' : H3 it = none := n3 it (List.mem_singleton.mpr rfl)
    have I3' := I3.pinned (hb1 n3') (T.obj _ _ st3)
    have ia := (pg_name (X := Z) (pos := p) hN hk hloc hfn).run _ s3 σ1 H3 x u (fun σ' H' => σ' = σ1.set k (some x) ∧ H' = H3) I3' r3 ⟨rfl, rfl⟩
    rw [hxe] at ia
    refine wpAny_bind (thnF ia ?_)
    rintro _ s4 ⟨σ4, H4, I4, rfl, rfl⟩
    obtain ⟨o, ho, hoc⟩ := T.obj _ _ st3 it (List.mem_singleton.mpr rfl)
    have pin4 := I4.pin (it, o) (List.mem_append_right _ (List.mem_append_right _ (mem_pinsAt (List.mem_singleton.mpr rfl) ho)))
    have ep : pinsAt [it] s3.heap = pinsAt [it] s4.heap := by
      unfold pinsAt
      rw [List.filterMap_cons, List.filterMap_cons, ho, pin4.1]
      rfl
    rw [ep] at I4
    have hσ4 : (σ1.set k (some x))[k]? = some (some x) := by
      have hkl : k < σ1.length := by rw [I1.len]; exact (List.getElem?_eq_some_iff.mp hk).1
      rw [List.getElem?_set_self hkl]
    refine hbd i x s4 _ _ hx g1 n3' I4 hσ4 (ag1.trans (Ag.set hkw)) _ _ _ ?_
    intro s5 σ5 H5 I5 ag5 g5
    have pin5 := I5.pin (it, o) (List.mem_append_right _ (List.mem_append_right _ (mem_pinsAt (List.mem_singleton.mpr rfl) pin4.1)))
    have st5 : s5.heap.IsTupleIter it c (i + 1) := T.keep _ _ _ st3 (by
      intro b hb o' e
      rw [List.mem_singleton.mp hb] at e ⊢
      rw [ho] at e
      rw [← Option.some.inj e]
      exact pin5.1)
    exact wpAny_pure ⟨rfl, xs.length - (i + 1), by omega, i + 1, σ5, H5, I5.unpinned, ag5, g5, pin5.2.1, st5, hlt, rfl⟩
  · have e : i = xs.length := by omega
    subst e
    have stop := T.done Z rfl rfl rfl hcalm xs.length pins s1 σ1 H1 (fun _ _ => False) I1 (hb1 n1) st1 ⟨xs, hq, Nat.le_refl _⟩
    refine thnF stop ?_
    rintro r s2 ⟨rfl, I2⟩
    exact wpAny_pure (hfin s2 σ1 H1 I2 ag1 g1)
end
/-! ### the three clauses -/
abbrev flatE (n1 n2 n3 : Str) (iter : Expr) (scope : Scope) (q1 q2 q3 a1 a2 a3 pos : Pos) : Expr :=
  .ListComp (.Name n3 a3) [⟨.Name n1 q1, iter, [], 0⟩, ⟨.Name n2 q2, .Name n1 a1, [], 0⟩, ⟨.Name n3 q3, .Name n2 a2, [], 0⟩] scope pos
section
variable {n1 n2 n3 : Str} {iter : Expr} {scope : Scope} {q1 q2 q3 a1 a2 a3 pos : Pos} {it D : Addr} {env : Env}
abbrev downBody (e i : Expr) (d : Nat) (D : Addr) (env : Env) (kk : Sem Fin) : Sem Fin := eval i env >>= fun x => standAt i.pos >>= fun _ =>
  foldedSetIterable i env x >>= fun x => holding [x] (pyIter x) >>= fun it' => runOwn (.compStart e d it' (.ref D) env) env >>= fun _ => kk
abbrev addBody (elt : Expr) (D : Addr) (env : Env) (kk : Sem Fin) : Sem Fin :=
  (eval elt env >>= fun x => call (.builtin "list.append") [.ref D, x] >>= fun _ => pure ()) >>= fun _ => kk
theorem flat_t0 : compTurn (flatE n1 n2 n3 iter scope q1 q2 q3 a1 a2 a3 pos) 0 (.ref it) (.ref D) env =
    flatTurn (flatE n1 n2 n3 iter scope q1 q2 q3 a1 a2 a3 pos) 0 it D n1 q1 iter.pos (downBody (flatE n1 n2 n3 iter scope q1 q2 q3 a1 a2 a3 pos) (.Name n1 a1) 1 D env) env := by rfl
theorem flat_t1 : compTurn (flatE n1 n2 n3 iter scope q1 q2 q3 a1 a2 a3 pos) 1 (.ref it) (.ref D) env =
    flatTurn (flatE n1 n2 n3 iter scope q1 q2 q3 a1 a2 a3 pos) 1 it D n2 q2 a1 (downBody (flatE n1 n2 n3 iter scope q1 q2 q3 a1 a2 a3 pos) (.Name n2 a2) 2 D env) env := by rfl
theorem flat_t2 : compTurn (flatE n1 n2 n3 iter scope q1 q2 q3 a1 a2 a3 pos) 2 (.ref it) (.ref D) env =
    flatTurn (flatE n1 n2 n3 iter scope q1 q2 q3 a1 a2 a3 pos) 2 it D n3 q3 a2 (addBody (.Name n3 a3) D env) env := by rfl
end
section
variable {prog : Program} {w : World} {A : Around} {R : Result → Shared → Prop} {s : Shared} {n1 n2 n3 : Str} {iter : Expr} {scope : Scope} {q1 q2 q3 a1 a2 a3 pos : Pos} {it acc : Value} {env : Env}
theorem flat_s1 (h0 : codeAny (model prog w) A (.compLoop (flatE n1 n2 n3 iter scope q1 q2 q3 a1 a2 a3 pos) 1 it acc env) R s)
    (h : wpAny (model prog w) A (pyIter it) (fun it' s' => codeAny (model prog w) A (.compLoop (flatE n1 n2 n3 iter scope q1 q2 q3 a1 a2 a3 pos) 1 it' acc env) R s') (notedBy (model prog w) A env fun x s' => R (.error x) s') s) :
    codeAny (model prog w) A (.compStart (flatE n1 n2 n3 iter scope q1 q2 q3 a1 a2 a3 pos) 1 it acc env) R s := by
  apply codeAny_of_tree
  show wpAny _ _ ((compStart (flatE n1 n2 n3 iter scope q1 q2 q3 a1 a2 a3 pos) 1 it acc env).onRaise (fun x => do noteFrame x env; standAt theWindowsPlace)) _ _ s
  apply wpAny_notedAt
  unfold compStart
  show wpAny _ _ (ask >>= _) _ _ s
  refine wpAny_bind (wpAny_askSetting (wpAny_ite ?_))
  split
  · first | exact wpAny_pure (And.intro rfl h0) | exact wpAny_bind (wpAny_pure (wpAny_pure (And.intro rfl h0)))
  · refine wpAny_bind (wpAny_rule ?_)
    show wpAny _ _ (standAt a1 >>= _) _ _ s
    exact wpAny_bind (wpAny_standAt (wpAny_bind (wpAny_mono h (fun it' s' h' => wpAny_pure (And.intro rfl h')) fun _ _ x => x)))
theorem flat_s2 (h0 : codeAny (model prog w) A (.compLoop (flatE n1 n2 n3 iter scope q1 q2 q3 a1 a2 a3 pos) 2 it acc env) R s)
    (h : wpAny (model prog w) A (pyIter it) (fun it' s' => codeAny (model prog w) A (.compLoop (flatE n1 n2 n3 iter scope q1 q2 q3 a1 a2 a3 pos) 2 it' acc env) R s') (notedBy (model prog w) A env fun x s' => R (.error x) s') s) :
    codeAny (model prog w) A (.compStart (flatE n1 n2 n3 iter scope q1 q2 q3 a1 a2 a3 pos) 2 it acc env) R s := by
  apply codeAny_of_tree
  show wpAny _ _ ((compStart (flatE n1 n2 n3 iter scope q1 q2 q3 a1 a2 a3 pos) 2 it acc env).onRaise (fun x => do noteFrame x env; standAt theWindowsPlace)) _ _ s
  apply wpAny_notedAt
  unfold compStart
  show wpAny _ _ (ask >>= _) _ _ s
  refine wpAny_bind (wpAny_askSetting (wpAny_ite ?_))
  split
  · first | exact wpAny_pure (And.intro rfl h0) | exact wpAny_bind (wpAny_pure (wpAny_pure (And.intro rfl h0)))
  · refine wpAny_bind (wpAny_rule ?_)
    show wpAny _ _ (standAt a2 >>= _) _ _ s
    exact wpAny_bind (wpAny_standAt (wpAny_bind (wpAny_mono h (fun it' s' h' => wpAny_pure (And.intro rfl h')) fun _ _ x => x)))
end
end Sg

set_option Elab.async false
set_option linter.all false
set_option maxRecDepth 100000
set_option maxHeartbeats 4000000
namespace Sg
open PySem PySem.Spec PyProof.Rows L2
/-- cells are tuples; xs are all their items -/
inductive FlatL (K : PySem.W.Frag) (H : Hp) : List V → List V → Prop
  | nil : FlatL K H [] []
  | cons {a : Addr} {ys cells xs : List V} : SqT K H a ys → FlatL K H cells xs → FlatL K H (.ref a :: cells) (ys ++ xs)
/-- rows are tuples of tuples; xs are all the items of these -/
inductive FlatR (K : PySem.W.Frag) (H : Hp) : List V → List V → Prop
  | nil : FlatR K H [] []
  | cons {a : Addr} {cells ys rows xs : List V} : SqT K H a cells → FlatL K H cells ys → FlatR K H rows xs → FlatR K H (.ref a :: rows) (ys ++ xs)
section
variable {K : PySem.W.Frag} {H : Hp}
theorem FlatL.snoc {a : Addr} {ys : List V} (h : SqT K H a ys) : ∀ {cells xs : List V}, FlatL K H cells xs → FlatL K H (cells ++ [.ref a]) (xs ++ ys)
  | _, _, .nil => by have z := FlatL.cons h .nil; rwa [List.append_nil] at z
  | _, _, .cons h1 r => by rw [List.append_assoc]; exact .cons h1 (FlatL.snoc h r)
theorem FlatR.snoc {a : Addr} {cells ys : List V} (h : SqT K H a cells) (hl : FlatL K H cells ys) : ∀ {rows xs : List V}, FlatR K H rows xs → FlatR K H (rows ++ [.ref a]) (xs ++ ys)
  | _, _, .nil => by have z := FlatR.cons h hl .nil; rwa [List.append_nil] at z
  | _, _, .cons h1 h2 r => by rw [List.append_assoc]; exact .cons h1 h2 (FlatR.snoc h hl r)
theorem FlatL.same {H' : Hp} (e : Same H H') : ∀ {cells xs : List V}, FlatL K H cells xs → FlatL K H' cells xs
  | _, _, .nil => .nil
  | _, _, .cons h r => .cons (h.imp (fun z => z.imp (e _ _) fun ⟨o, z⟩ => ⟨o, e _ _ z⟩) id) (FlatL.same e r)
theorem FlatR.same {H' : Hp} (e : Same H H') : ∀ {rows xs : List V}, FlatR K H rows xs → FlatR K H' rows xs
  | _, _, .nil => .nil
  | _, _, .cons h l r => .cons (h.imp (fun z => z.imp (e _ _) fun ⟨o, z⟩ => ⟨o, e _ _ z⟩) id) (FlatL.same e l) (FlatR.same e r)
theorem sqT_new {D a : Addr} {o : HO} {ys : List V} (n : H D = none) (h : SqT K H a ys) : SqT K (upd H D o) a ys :=
  h.imp (fun z => z.imp (fun z => by rw [upd_ne (ne_of_none z n)]; exact z) fun ⟨u, z⟩ => ⟨u, by rw [upd_ne (ne_of_none z n)]; exact z⟩) id
end
section
variable {Z : Cx} {n1 n2 n3 : Str} {iter : Expr} {scope : Scope} {q1 q2 q3 a1 a2 a3 pos : Pos} {k1 k2 k3 : Nat}
/-- what the block says of its names -/
structure FlatN (Z : Cx) (n1 n2 n3 : Str) (k1 k2 k3 : Nat) : Prop where
  xe : Z.xe = fun _ _ => False
  calm : Z.calm = true
  nd : Z.N.Nodup
  h1 : Z.N[k1]? = some n1
  h2 : Z.N[k2]? = some n2
  h3 : Z.N[k3]? = some n3
  l1 : Z.env.scope.names.lookup n1 = some .local
  l2 : Z.env.scope.names.lookup n2 = some .local
  l3 : Z.env.scope.names.lookup n3 = some .local
  d1 : (n1 == ("__debug__" : Str)) = false
  d2 : (n2 == ("__debug__" : Str)) = false
  d3 : (n3 == ("__debug__" : Str)) = false
  c1 : (n1 == ("__classdict__" : Str)) = false
  c2 : (n2 == ("__classdict__" : Str)) = false
  c3 : (n3 == ("__classdict__" : Str)) = false
/-- the innermost loop -/
theorem flat_in (B : FlatN Z n1 n2 n3 k1 k2 k3) {pins : List (Addr × Obj)} {σ : L2.St} {H : Hp} {s : Shared} {R : Result → Shared → Prop} {it D c : Addr} {acc xs : List V}
    (hn : H D = none) (hc : SqT Z.K H c xs) (hz : acc.length + xs.length ≤ 1000000) (I : Inv Z pins σ (upd H D (.lst acc)) s) (st : s.heap.IsTupleIter it c 0) (hit : (upd H D (.lst acc)) it = none)
    (hfp : ∀ H, H it = none → FpOk Z pins H it)
    (fin : ∀ s' σ', Inv Z pins σ' (upd H D (.lst (acc ++ xs))) s' → Ag [k3] σ σ' → R (.ok .next) s') :
    codeAny (model Z.prog Z.w) Z.A (.compLoop (flatE n1 n2 n3 iter scope q1 q2 q3 a1 a2 a3 pos) 2 (.ref it) (.ref D) Z.env) R s := by
  refine flat_loop B.xe B.calm B.nd flat_t2 B.h3 (.inl B.l3) (.inr B.l3) (List.mem_singleton.mpr rfl) σ (fun i H' => H' = upd H D (.lst (acc ++ xs.take i)))
    (fun i H' _ e => by rw [e]; exact sqT_new hn hc) hfp (fun i x s1 σ1 H1 hx e hi I1 hk ag kk Qf Ef cont => ?_) (fun s' σ' H' I' ag e => ?_) I (Ag.refl _ _) (by rw [List.take_zero, List.append_nil]) hit st
  · subst e
    have ev := (pe_var (pos := a3) (X := Z) B.h3 (.inl B.l3) B.d3 B.c3).run _ s1 σ1 _ (fun v H2 => v = x ∧ H2 = upd H D (.lst (acc ++ xs.take i))) I1 ⟨x, hk, rfl, rfl⟩
    rw [B.xe] at ev
    refine wpAny_bind (wpAny_bind (thnF ev ?_))
    rintro u s2 ⟨v, H2, I2, r2, rfl, rfl⟩
    have lt : (acc ++ xs.take i).length < sizeLine := by
      have h4 : sizeLine = 16777216 := sizeLine_eq
      rw [List.length_append, List.length_take]
      have := Nat.min_le_right i xs.length
      omega
    refine wpAny_bind (app_ok (X := Z) I2 upd_same lt r2 fun s3 I3 => wpAny_pure ?_)
    rw [upd_upd] at I3
    refine cont s3 σ1 _ I3 ag ?_
    rw [List.take_add_one, hx, List.append_assoc]
    rfl
  · subst e
    rw [List.take_length] at I'
    exact fin s' σ' I' ag
/-- down a level: name, iterator, loop -/
theorem flat_down {pins : List (Addr × Obj)} {σ : L2.St} {H : Hp} {s : Shared} {c : Addr} {ys : List V} {nn : Str} {aa : Pos} {e : Expr} {d k : Nat} {D : Addr} {kk : Sem Fin} {Qf : Fin → Shared → Prop} {Ef : Value → Shared → Prop}
    (hxe : Z.xe = fun _ _ => False) (hN : Z.N[k]? = some nn) (hl : Z.env.scope.names.lookup nn = some .local) (hd : (nn == ("__debug__" : Str)) = false) (hcd : (nn == ("__classdict__" : Str)) = false)
    (I : Inv Z pins σ H s) (hk : σ[k]? = some (some (.ref c))) (hq : SqT Z.K H c ys)
    (go : ∀ s1 it, Inv Z pins σ H s1 → H it = none → (∀ H, H it = none → FpOk Z pins H it) → s1.heap.IsTupleIter it c 0 →
      codeAny (model Z.prog Z.w) Z.A (.compStart e d (.ref it) (.ref D) Z.env) (fun r s' => r = .ok .next ∧ wpAny (model Z.prog Z.w) Z.A kk Qf Ef s') s1) :
    wpAny (model Z.prog Z.w) Z.A (downBody e (.Name nn aa) d D Z.env kk) Qf Ef s := by
  have ev := (pe_var (pos := aa) (X := Z) hN (.inl hl) hd hcd).run _ s σ H (fun v H2 => v = .ref c ∧ H2 = H) I ⟨.ref c, hk, rfl, rfl⟩
  rw [hxe] at ev
  refine wpAny_bind (thnF ev ?_)
  rintro u s2 ⟨v, H2, I2, r2, rfl, rfl⟩
  obtain rfl : u = Value.ref c := r2
  refine wpAny_bind (wpAny_standAt (wpAny_bind (wpAny_of_eq (a := Value.ref c) rfl (wpAny_bind (wpAny_holding ?_)))))
  obtain ⟨its, rv, p, hz⟩ := I2.tuple hq
  refine wpAny_pyIter_tuple (show s2.heap.IsTuple c its.toArray from p) ?_
  refine wpAny_bind (wpAny_runOwn ?_)
  rw [Around.mark_none]
  have I3 : Inv Z pins σ H2 { s2 with heap := s2.heap.push { cls := .type "tuple_iterator", data := .fields #[.ref c, .int 0 0] } } := I2.kept (t' := s2.toks) fun b o e => Heap.get?_push_of_some _ e
  refine codeAny_mono (go _ s2.heap.objs.size I3 (I2.hok.fresh (Nat.le_refl _)) (fun H' h => I2.fpOk (Nat.le_refl _) h) ⟨_, Heap.get?_push_size _ rfl, rfl, rfl⟩) ?_
  rintro r s' ⟨rfl, hkk⟩
  exact hkk
/-- the middle loop -/
theorem flat_mid (B : FlatN Z n1 n2 n3 k1 k2 k3) {pins : List (Addr × Obj)} {σ : L2.St} {H : Hp} {s : Shared} {R : Result → Shared → Prop} {it D c : Addr} {acc cells xs : List V}
    (hn : H D = none) (hc : SqT Z.K H c cells) (hf : FlatL Z.K H cells xs) (hz : acc.length + xs.length ≤ 1000000) (I : Inv Z pins σ (upd H D (.lst acc)) s) (st : s.heap.IsTupleIter it c 0) (hit : (upd H D (.lst acc)) it = none)
    (hfp : ∀ H, H it = none → FpOk Z pins H it)
    (fin : ∀ s' σ', Inv Z pins σ' (upd H D (.lst (acc ++ xs))) s' → Ag [k2, k3] σ σ' → R (.ok .next) s') :
    codeAny (model Z.prog Z.w) Z.A (.compLoop (flatE n1 n2 n3 iter scope q1 q2 q3 a1 a2 a3 pos) 1 (.ref it) (.ref D) Z.env) R s := by
  refine flat_loop (ws := [k2, k3]) B.xe B.calm B.nd flat_t1 B.h2 (.inl B.l2) (.inr B.l2) (List.mem_cons_self) σ
    (fun i H' => ∃ pre suf ys zs, cells = pre ++ suf ∧ pre.length = i ∧ FlatL Z.K H pre ys ∧ FlatL Z.K H suf zs ∧ xs = ys ++ zs ∧ H' = upd H D (.lst (acc ++ ys)))
    (fun i H' _ ⟨_, _, _, _, _, _, _, _, _, e⟩ => by rw [e]; exact sqT_new hn hc) hfp (fun i x s1 σ1 H1 hx e hi I1 hk ag kk Qf Ef cont => ?_) (fun s' σ' H' I' ag e => ?_) I (Ag.refl _ _)
    ⟨[], cells, [], xs, rfl, rfl, .nil, hf, rfl, by rw [List.append_nil]⟩ hit st
  · obtain ⟨pre, suf, ys, zs, ec, el, f1, f2, ex, rfl⟩ := e
    cases f2 with
    | nil =>
      rw [ec, List.append_nil, ← el, List.getElem?_eq_none (Nat.le_refl _)] at hx
      exact nomatch hx
    | @cons b bs suf' zs' hb r =>
      have xb : x = .ref b := by
        rw [ec, ← el, List.getElem?_append_right (Nat.le_refl _), Nat.sub_self] at hx
        exact (Option.some.inj hx).symm
      subst xb
      have zl : acc.length + ys.length + bs.length ≤ 1000000 := by
        rw [ex, List.length_append, List.length_append] at hz
        omega
      refine flat_down B.xe B.h2 B.l2 B.d2 B.c2 I1 hk (sqT_new hn hb) fun s2 it2 I2 n2' fp2 st2 => ?_
      have loop : codeAny (model Z.prog Z.w) Z.A (.compLoop (flatE n1 n2 n3 iter scope q1 q2 q3 a1 a2 a3 pos) 2 (.ref it2) (.ref D) Z.env) (fun r s' => r = .ok .next ∧ wpAny (model Z.prog Z.w) Z.A kk Qf Ef s') s2 := by
        refine flat_in B hn hb (by rw [List.length_append]; exact zl) I2 st2 n2' fp2 fun s3 σ3 I3 ag3 => ⟨rfl, ?_⟩
        refine cont s3 σ3 _ I3 (ag.trans (ag3.mono (by simp))) ⟨pre ++ [.ref b], suf', ys ++ bs, zs', by rw [ec, List.append_assoc]; rfl, by rw [List.length_append, el]; rfl, FlatL.snoc hb f1, r, by rw [ex, List.append_assoc], by rw [List.append_assoc]⟩
      exact flat_s2 loop (wpAny_pyIter_tupleiter st2 loop)
  · obtain ⟨pre, suf, ys, zs, ec, el, f1, f2, ex, rfl⟩ := e
    have es : suf = [] := by
      have z := congrArg List.length ec
      rw [List.length_append, el] at z
      exact List.eq_nil_of_length_eq_zero (by omega)
    subst es
    cases f2
    rw [List.append_nil] at ex
    subst ex
    exact fin s' σ' I' ag
/-- the outer loop -/
theorem flat_out (B : FlatN Z n1 n2 n3 k1 k2 k3) {σ : L2.St} {H : Hp} {s : Shared} {R : Result → Shared → Prop} {it D c : Addr} {rows xs : List V}
    (hn : H D = none) (hc : SqT Z.K H c rows) (hf : FlatR Z.K H rows xs) (hz : xs.length ≤ 1000000) (I : Inv Z [] σ (upd H D (.lst [])) s) (st : s.heap.IsTupleIter it c 0) (hit : (upd H D (.lst [])) it = none)
    (hfp : ∀ H, H it = none → FpOk Z [] H it)
    (fin : ∀ s' σ', Inv Z [] σ' (upd H D (.lst xs)) s' → R (.ok .next) s') :
    codeAny (model Z.prog Z.w) Z.A (.compLoop (flatE n1 n2 n3 iter scope q1 q2 q3 a1 a2 a3 pos) 0 (.ref it) (.ref D) Z.env) R s := by
  refine flat_loop (ws := [k1, k2, k3]) B.xe B.calm B.nd flat_t0 B.h1 (.inl B.l1) (.inr B.l1) (List.mem_cons_self) σ
    (fun i H' => ∃ pre suf ys zs, rows = pre ++ suf ∧ pre.length = i ∧ FlatR Z.K H pre ys ∧ FlatR Z.K H suf zs ∧ xs = ys ++ zs ∧ H' = upd H D (.lst ys))
    (fun i H' _ ⟨_, _, _, _, _, _, _, _, _, e⟩ => by rw [e]; exact sqT_new hn hc) hfp (fun i x s1 σ1 H1 hx e hi I1 hk ag kk Qf Ef cont => ?_) (fun s' σ' H' I' ag e => ?_) I (Ag.refl _ _)
    ⟨[], rows, [], xs, rfl, rfl, .nil, hf, rfl, rfl⟩ hit st
  · obtain ⟨pre, suf, ys, zs, ec, el, f1, f2, ex, rfl⟩ := e
    cases f2 with
    | nil =>
      rw [ec, List.append_nil, ← el, List.getElem?_eq_none (Nat.le_refl _)] at hx
      exact nomatch hx
    | @cons b bcells bs suf' zs' hb hbl r =>
      have xb : x = .ref b := by
        rw [ec, ← el, List.getElem?_append_right (Nat.le_refl _), Nat.sub_self] at hx
        exact (Option.some.inj hx).symm
      subst xb
      have zl : ys.length + bs.length ≤ 1000000 := by
        rw [ex, List.length_append, List.length_append] at hz
        omega
      refine flat_down B.xe B.h1 B.l1 B.d1 B.c1 I1 hk (sqT_new hn hb) fun s2 it2 I2 n2' fp2 st2 => ?_
      have loop : codeAny (model Z.prog Z.w) Z.A (.compLoop (flatE n1 n2 n3 iter scope q1 q2 q3 a1 a2 a3 pos) 1 (.ref it2) (.ref D) Z.env) (fun r s' => r = .ok .next ∧ wpAny (model Z.prog Z.w) Z.A kk Qf Ef s') s2 := by
        refine flat_mid B hn hb hbl zl I2 st2 n2' fp2 fun s3 σ3 I3 ag3 => ⟨rfl, ?_⟩
        refine cont s3 σ3 _ I3 (ag.trans (ag3.mono (by simp))) ⟨pre ++ [.ref b], suf', ys ++ bs, zs', by rw [ec, List.append_assoc]; rfl, by rw [List.length_append, el]; rfl, FlatR.snoc hb hbl f1, r, by rw [ex, List.append_assoc], rfl⟩
      exact flat_s1 loop (wpAny_pyIter_tupleiter st2 loop)
  · obtain ⟨pre, suf, ys, zs, ec, el, f1, f2, ex, rfl⟩ := e
    have es : suf = [] := by
      have z := congrArg List.length ec
      rw [List.length_append, el] at z
      exact List.eq_nil_of_length_eq_zero (by omega)
    subst es
    cases f2
    rw [List.append_nil] at ex
    subst ex
    exact fin s' σ' I'
end
end Sg

set_option Elab.async false
set_option linter.all false
set_option maxRecDepth 100000
set_option maxHeartbeats 4000000
namespace Sg
open PySem PySem.Spec PyProof.Rows L2
/-- [c for a in e for b in a for c in b]: e a tuple of tuples of tuples -/
def tFlat (K : PySem.W.Frag) (te : TE) : TE := fun σ H Q => te σ H fun v H1 => ∃ t rows xs, v = .ref t ∧ SqT K H1 t rows ∧ FlatR K H1 rows xs ∧ xs.length ≤ 1000000 ∧
  ∀ D, H1 D = none → Q (.ref D) (upd H1 D (.lst xs))
section
variable {X : Cx} {n1 n2 n3 : Str} {iter : Expr} {scope : Scope} {q1 q2 q3 a1 a2 a3 pos : Pos} {k1 k2 k3 : Nat} {own : List (Str × Nat)} {te : TE}
theorem pe_flat (hc : X.calm = true) (hN : X.N.Nodup) (hi : PE X iter te) (ok : BlkOk X.N X.env.scope scope own)
    (h1 : X.N[k1]? = some n1) (h2 : X.N[k2]? = some n2) (h3 : X.N[k3]? = some n3)
    (l1 : ∀ (C : Addr) (cl : List (Str × Addr)), (compEnvC scope cl C X.env).scope.names.lookup n1 = some .local)
    (l2 : ∀ (C : Addr) (cl : List (Str × Addr)), (compEnvC scope cl C X.env).scope.names.lookup n2 = some .local)
    (l3 : ∀ (C : Addr) (cl : List (Str × Addr)), (compEnvC scope cl C X.env).scope.names.lookup n3 = some .local)
    (dd : ((n1 == ("__debug__" : Str)) || (n2 == ("__debug__" : Str)) || (n3 == ("__debug__" : Str)) || (n1 == ("__classdict__" : Str)) || (n2 == ("__classdict__" : Str)) || (n3 == ("__classdict__" : Str))) = false := by decide)
    (hs : ∀ x, foldedSetIterable iter X.env x = pure x := by intro _; rfl) :
    PE X (flatE n1 n2 n3 iter scope q1 q2 q3 a1 a2 a3 pos) (tFlat X.K te) := by
  simp only [Bool.or_eq_false_iff] at dd
  obtain ⟨⟨⟨⟨⟨d1, d2⟩, d3⟩, c1⟩, c2⟩, c3⟩ := dd
  constructor
  intro pins s σ H Q I h
  rw [eval_ListComp]
  have hfree : ∀ y ∈ scope.names, y.2 = .free → ∃ c, X.env.cells.lookup y.1 = some c := by
    intro y hy e
    cases ok.free y hy e with
    | inl k => exact I.ok.has _ (.inl k)
    | inr k => exact I.ok.has _ (.inr k)
  refine wpAny_comprehension_free (use := none) rfl hs (closure_ok hfree) ok.kind (fun y hy e => by rw [ok.uniq y hy, e]) (thn (hi.run pins s σ H _ I h) ?_)
  rintro xv s1 ⟨v, H1, I1, r1, t, rows, xs, rfl, hq, hf, hz, q⟩
  obtain rfl : xv = Value.ref t := r1
  obtain ⟨its, rv, p, hzz⟩ := I1.tuple hq
  refine wpAny_pyIter_tuple (show s1.heap.IsTuple t its.toArray from p) ?_
  generalize hs2 : ({ s1 with heap := s1.heap.push { cls := .type "tuple_iterator", data := .fields #[.ref t, .int 0 0] } } : Shared) = s2
  have I2 : Inv X pins σ H1 s2 := by
    rw [← hs2]
    exact I1.kept (t' := s1.toks) fun b o e => Heap.get?_push_of_some _ e
  generalize hit : s1.heap.objs.size = it
  have st2 : s2.heap.IsTupleIter it t 0 := by
    rw [← hs2, ← hit]
    exact ⟨_, Heap.get?_push_size _ rfl, rfl, rfl⟩
  have nn2 : H1 it = none := I1.hok.fresh (Nat.le_of_eq hit)
  have lt2 : it < s2.heap.objs.size := by
    obtain ⟨_, e, _⟩ := st2
    exact Heap.lt_size e
  have f2 : ∀ H', H' it = none → FpOk X pins H' it := fun H' hn => I1.fpOk (Nat.le_of_eq hit) hn
  refine wpAny_newObj_type (newEnv_comp ?_) (by show 0 ≤ sizeLine; decide)
  generalize hD : s2.heap.objs.size = D
  have hDn : H1 D = none := I2.hok.fresh (Nat.le_of_eq hD)
  generalize hs3 : ({ s2 with heap := s2.heap.push { cls := .type "list", data := .seq ([] : List Value).toArray } } : Shared) = s3
  have I3 : Inv X pins σ (upd H1 D (.lst [])) s3 := by
    rw [← hs3]
    refine I2.laid (t' := s2.toks) (fun b o e => Heap.get?_push_of_some _ e) (Nat.le_of_eq hD) ⟨Nat.zero_le _, [], 0, .nil, ?_⟩
    rw [← hD]
    exact Heap.get?_push_size _ rfl
  have k3' : ∀ b o, s2.heap.get? b = some o → s3.heap.get? b = some o := by
    intro b o e
    rw [← hs3]
    exact Heap.get?_push_of_some _ e
  have st3 : s3.heap.IsTupleIter it t 0 := st2.at fun o e => k3' it o e
  have lt3 : it < s3.heap.objs.size := by
    obtain ⟨_, e, _⟩ := st3
    exact Heap.lt_size e
  have nit : (upd H1 D (.lst [])) it = none := by
    rw [upd_ne (by rw [← hD]; exact Nat.ne_of_lt lt2)]
    exact nn2
  have I4 := block_start (fp := [it]) I3 ok hN (by
    intro b hb
    rw [List.mem_singleton.mp hb]
    exact ⟨f2 _ nit, lt3⟩)
  show codeAny _ _ (.compStart (flatE n1 n2 n3 iter scope q1 q2 q3 a1 a2 a3 pos) 0 (.ref it) (.ref D) (compEnvC scope (cellsFrom (s3.heap.objs.size + 1) scope.names (cloFrom X.env.cells scope.names [])) s3.heap.objs.size X.env))
    (compPost (model X.prog X.w) X.A X.xe none (EP X pins σ Q) (.ref D) s3.heap.objs.size) { s3 with heap := pushCells (s3.heap.push { cls := .type "dict", data := .dict #[] }) scope.names }
  have hl1 := l1 s3.heap.objs.size (cellsFrom (s3.heap.objs.size + 1) scope.names (cloFrom X.env.cells scope.names []))
  have hl2 := l2 s3.heap.objs.size (cellsFrom (s3.heap.objs.size + 1) scope.names (cloFrom X.env.cells scope.names []))
  have hl3 := l3 s3.heap.objs.size (cellsFrom (s3.heap.objs.size + 1) scope.names (cloFrom X.env.cells scope.names []))
  have cL : (compEnvC scope (cellsFrom (s3.heap.objs.size + 1) scope.names (cloFrom X.env.cells scope.names [])) s3.heap.objs.size X.env).locals = s3.heap.objs.size := rfl
  generalize compEnvC scope (cellsFrom (s3.heap.objs.size + 1) scope.names (cloFrom X.env.cells scope.names [])) s3.heap.objs.size X.env = ce at I4 hl1 hl2 hl3 cL ⊢
  have st4 : (pushCells (s3.heap.push { cls := .type "dict", data := .dict #[] }) scope.names).IsTupleIter it t 0 :=
    st3.at fun o e => pushCells_keeps _ _ _ _ (Heap.get?_push_of_some _ e)
  generalize hs4 : ({ s3 with heap := pushCells (s3.heap.push { cls := .type "dict", data := .dict #[] }) scope.names } : Shared) = s4 at I4 ⊢
  have st4' : s4.heap.IsTupleIter it t 0 := by rw [← hs4]; exact st4
  have B : FlatN (X.blk s3 (upd H1 D (.lst [])) scope ce [it]) n1 n2 n3 k1 k2 k3 := ⟨rfl, hc, hN, h1, h2, h3, hl1, hl2, hl3, d1, d2, d3, c1, c2, c3⟩
  have fpZ : ∀ H', H' it = none → FpOk (X.blk s3 (upd H1 D (.lst [])) scope ce [it]) [] H' it := by
    intro H' hn
    refine ⟨hn, (I4.ok.exf it (List.mem_singleton.mpr rfl)).1, I4.ok.exfs it (List.mem_singleton.mpr rfl), .inl (List.mem_singleton.mpr rfl), (I4.ok.exf it (List.mem_singleton.mpr rfl)).2, ?_⟩
    intro p hp
    have hp' : p ∈ ([] : List (Addr × Obj)) ++ [] := hp
    exact nomatch hp'
  have loop : codeAny (model X.prog X.w) X.A (.compLoop (flatE n1 n2 n3 iter scope q1 q2 q3 a1 a2 a3 pos) 0 (.ref it) (.ref D) ce)
      (compPost (model X.prog X.w) X.A X.xe none (EP X pins σ Q) (.ref D) s3.heap.objs.size) s4 := by
    refine flat_out B hDn hq hf hz I4 st4' nit fpZ ?_
    intro s' σ' I5
    have I6 : Inv X pins σ (upd H1 D (.lst xs)) s' := by
      refine I3.call' (ch := [it]) I5.os I5.base I5.hok I5.bare ?_
      intro b hb
      rw [List.mem_singleton.mp hb]
      obtain ⟨_, g1, g2, g3, g4, g5⟩ := f2 _ nit
      exact ⟨g3, g1, g4, g5⟩
    have nC : (upd H1 D (.lst xs)) s3.heap.objs.size = none := by
      have z : (upd H1 D (.lst xs)) ce.locals = none := I5.free
      rw [cL] at z
      exact z
    obtain ⟨m, hn, _⟩ := I5.loc
    have hn' : s'.heap.Ns ce.locals m := hn
    rw [cL] at hn'
    refine ⟨m, hn', ?_⟩
    intro h'' sb
    obtain ⟨f0, f1, f2', f3, f4, f5⟩ := I3.fpOk (Nat.le_refl _) nC
    exact ⟨.ref D, _, I6.turned (t' := s'.toks) (fun b o hb e => (sb.2 b hb).trans e) f0 f1 f3 f4 f5, rfl, q D hDn⟩
  exact codeAny_compStart_list loop (wpAny_pyIter_tupleiter st4' loop)
end
end Sg

set_option Elab.async false
set_option linter.all false
set_option maxRecDepth 100000
set_option maxHeartbeats 4000000
namespace Sg
open PySem PySem.Spec PyProof.Rows L2
/-! ## max with a default -/
section
variable {X : Cx}
theorem cr_maxD (hc : X.calm = true) {j : Nat} (hr : Room j X.A) : CallRK X (.builtin "max") ["default"] (fun vs zs H Q => ∃ (a : Addr) (ns : List Int) (d : Int), vs = [.ref a] ∧ zs = [.int d] ∧ SqL X.K H a (ns.map V.int) ∧
    ∀ m : Int, (ns = [] → m = d) → (ns ≠ [] → m ∈ ns ∧ ∀ x ∈ ns, x ≤ m) → Q (.int m) H) := by
  intro pins s σ H xs zs us ws Q I r rz h
  obtain ⟨a, ns, d, rfl, rfl, hs, q⟩ := h
  obtain ⟨u, rfl, rfl⟩ := vals1 r
  obtain ⟨dv, rfl, td, rfl⟩ := vals1 rz
  obtain ⟨its, rv, hl, hzz⟩ := I.list hs
  have dp : DpAll X.K H (ns.map V.int) (ns.map PyData.int) := by
    clear hs q rv hl hzz
    induction ns with
    | nil => exact .nil
    | cons x r ih => exact .cons (.int x) ih
  obtain ⟨as, rd⟩ := Dp.readsAll I (ns.map PyData.int) _ its dp rv
  have al : PySem.W.AlikeAll (ns.map PyData.int) := by
    constructor
    · intro x hx y hy
      obtain ⟨i, _, rfl⟩ := List.mem_map.mp hx
      obtain ⟨j, _, rfl⟩ := List.mem_map.mp hy
      rfl
    · intro x hx z
      obtain ⟨i, _, rfl⟩ := List.mem_map.mp hx
      exact nomatch z
  have dep : PyData.depthAll (ns.map PyData.int) = 0 := by
    clear hs q rv hl rd al dp hzz
    induction ns with
    | nil => rfl
    | cons x r ih =>
      show max (PyData.depth (.int x)) (PyData.depthAll (r.map PyData.int)) = 0
      rw [ih]; rfl
  have hu := hr.units
  refine PySem.W.max_list_default (I.ok.hd hc) hl.isList (by simpa using rd) al (by rw [dep]; omega) (fun e h' tk hk => ?_) (fun y ys i v h' tk bs e hv hrd hk => ?_)
  · exact ⟨.int d, H, I.kept hk, ⟨_, rfl⟩, q d (fun _ => rfl) (fun z => absurd (List.map_eq_nil_iff.mp e) z)⟩
  · cases ns with
    | nil => exact nomatch e
    | cons n ns' =>
      obtain ⟨e1, e2⟩ := List.cons.inj e
      subst e1 e2
      rw [PySem.W.maxD_ints] at hrd
      cases hrd
      refine ⟨.int _, H, I.kept hk, ⟨_, rfl⟩, q _ (fun z => nomatch z) (fun _ => ?_)⟩
      have key : ∀ (l : List Int) (a : Int), (l.foldl max a = a ∨ l.foldl max a ∈ l) ∧ a ≤ l.foldl max a ∧ ∀ x ∈ l, x ≤ l.foldl max a := by
        intro l
        induction l with
        | nil => intro a; exact ⟨.inl rfl, Int.le_refl _, fun x hx => nomatch hx⟩
        | cons b l ih =>
          intro a
          obtain ⟨g1, g2, g3⟩ := ih (max a b)
          refine ⟨?_, by show a ≤ l.foldl max (max a b); omega, fun x hx => ?_⟩
          · show l.foldl max (max a b) = a ∨ l.foldl max (max a b) ∈ b :: l
            rcases g1 with g | g
            · rcases Int.le_total a b with z | z
              · right; rw [g, Int.max_eq_right z]; exact List.mem_cons_self
              · left; rw [g, Int.max_eq_left z]
            · exact .inr (List.mem_cons_of_mem _ g)
          · show x ≤ l.foldl max (max a b)
            rcases List.mem_cons.mp hx with rfl | z
            · omega
            · exact g3 x z
      obtain ⟨g1, g2, g3⟩ := key ns' n
      refine ⟨?_, fun x hx => ?_⟩
      · rcases g1 with g | g
        · rw [g]; exact List.mem_cons_self
        · exact List.mem_cons_of_mem _ g
      · rcases List.mem_cons.mp hx with rfl | z
        · exact g2
        · exact g3 x z
end
/-! ## operators of one's own -/
section
variable {X : Cx} {k : Nat} {C g : Addr} {fd : FuncData} {ps : List Str} {sp : Sp}
theorem back_of {pins : List (Addr × Obj)} {σ : L2.St} {Q : VK} {u : Value} {s : Shared} (h : EP X pins σ Q u s) : PySem.W.CmpBack (EP X pins σ Q) u s := by
  obtain ⟨v, H, I, r, q⟩ := id h
  cases v with
  | non => cases r; exact h
  | bl b => cases r; exact h
  | int i => obtain ⟨t, rfl⟩ := r; exact h
  | str i => obtain ⟨t, rfl⟩ := r; exact h
  | byt i => obtain ⟨t, rfl⟩ := r; exact h
  | flt i => obtain ⟨t, rfl⟩ := r; exact h
  | ref a => cases r; exact h
  | ty n => cases r; exact h
/-- an instance of C -/
def InsAt (H : Hp) (C a : Addr) : Prop := ∃ dx fs, H a = some (.ins C dx fs)
theorem insAt_look {pins : List (Addr × Obj)} {σ : L2.St} {H : Hp} {s : Shared} {a : Addr} (I : Inv X pins σ H s) (h : InsAt H C a) : ∃ ox od, PySem.W.InstAt s.heap a ox C od := by
  obtain ⟨dx, fs, h⟩ := h
  obtain ⟨mA, O, _⟩ := ins_get I.hok h
  obtain ⟨od, J, _⟩ := O.look
  exact ⟨_, _, J⟩
/-- a + b and its like, both instances of C -/
theorem op_own {op : Operator} (F : FnOk X.prog X.w X.K X.mg X.base CX0 k g fd ps sp) (hr : Room k X.A) (hb : Binds X.K fd ps []) (hs : PySem.W.findIn X.K (.ref C) (PySem.dunder op.info.2) = some (some (.ref g)))
    (hf : PySem.W.isFn X.K (.ref g) = true) (hc : PySem.W.selfFirst X.K C = true) :
    OpR X (binaryOp op) (fun x y H Q => ∃ a b, x = .ref a ∧ y = .ref b ∧ InsAt H C a ∧ InsAt H C b ∧ sp [.ref a, .ref b] H Q E0) := by
  intro pins s σ H x y v u Q I rx ry h
  obtain ⟨a, b, rfl, rfl, ha, hb', h⟩ := h
  obtain rfl : v = Value.ref a := rx
  obtain rfl : u = Value.ref b := ry
  obtain ⟨m, hF⟩ := I.fr
  obtain ⟨_, _, J⟩ := insAt_look I ha
  obtain ⟨_, _, J'⟩ := insAt_look I hb'
  refine PySem.W.binop_K hF I.ok.mod.kin J J'.type hc hs hf ?_
  exact thn (run_fn (us := [.ref a, .ref b]) (vs := [.ref a, .ref b]) F hr hb .nil pass0 I (.cons rfl (.cons rfl .nil)) h) fun _ _ z => back_of z
/-- a - n, n a whole number -/
theorem op_ownI {op : Operator} {fo ro rc : Option Value} (F : FnOk X.prog X.w X.K X.mg X.base CX0 k g fd ps sp) (hr : Room k X.A) (hb : Binds X.K fd ps []) (hs : PySem.W.findIn X.K (.ref C) (PySem.dunder op.info.2) = some (some (.ref g)))
    (hf : PySem.W.isFn X.K (.ref g) = true) (hc : PySem.W.selfFirst X.K C = true) (hrr : PySem.W.findIn X.K (.ref C) (dunderR op.info.2) = some rc) (hp : rc = none ∨ ∃ g : Addr, rc = some (.ref g))
    (h1 : PySem.W.findIn X.K (.type "int") (PySem.dunder op.info.2) = some fo) (h2 : PySem.W.findIn X.K (.type "int") (dunderR op.info.2) = some ro) (hsub : PySem.W.subIn X.K (.type "int") (.ref C) = some false) :
    OpR X (binaryOp op) (fun x y H Q => ∃ a i, x = .ref a ∧ y = .int i ∧ InsAt H C a ∧ sp [.ref a, .int i] H Q E0) := by
  intro pins s σ H x y v u Q I rx ry h
  obtain ⟨a, i, rfl, rfl, ha, h⟩ := h
  obtain rfl : v = Value.ref a := rx
  obtain ⟨t, rfl⟩ := ry
  obtain ⟨m, hF⟩ := I.fr
  obtain ⟨_, _, J⟩ := insAt_look I ha
  refine PySem.W.ksp_binT (T := "int") hF I.ok.mod.kin J rfl hc hs hf hrr hp h1 h2 hsub ?_
  exact thn (run_fn (us := [.ref a, .int i t]) (vs := [.ref a, .int i]) F hr hb .nil pass0 I (.cons rfl (.cons ⟨t, rfl⟩ .nil)) h) fun _ _ z => back_of z
/-- -a -/
theorem un_own (F : FnOk X.prog X.w X.K X.mg X.base CX0 k g fd ps sp) (hr : Room k X.A) (hb : Binds X.K fd ps []) (hs : PySem.W.findIn X.K (.ref C) "__neg__" = some (some (.ref g))) (hf : PySem.W.isFn X.K (.ref g) = true) :
    UnR X (unaryOp .USub) (fun x H Q => ∃ a, x = .ref a ∧ InsAt H C a ∧ sp [.ref a] H Q E0) := by
  intro pins s σ H x v Q I rx h
  obtain ⟨a, rfl, ha, h⟩ := h
  obtain rfl : v = Value.ref a := rx
  obtain ⟨m, hF⟩ := I.fr
  obtain ⟨_, _, J⟩ := insAt_look I ha
  exact PySem.W.ksp_neg hF I.ok.mod.kin J hs hf (run_fn (us := [.ref a]) (vs := [.ref a]) F hr hb .nil pass0 I (.cons rfl .nil) h)
/-- a == b, both instances of C -/
theorem op_ownEq (F : FnOk X.prog X.w X.K X.mg X.base CX0 k g fd ps sp) (hr : Room k X.A) (hb : Binds X.K fd ps []) (hs : PySem.W.findIn X.K (.ref C) "__eq__" = some (some (.ref g))) (hf : PySem.W.isFn X.K (.ref g) = true) :
    OpR X (compareOp .Eq) (fun x y H Q => ∃ a b, x = .ref a ∧ y = .ref b ∧ InsAt H C a ∧ InsAt H C b ∧ sp [.ref a, .ref b] H Q E0) := by
  intro pins s σ H x y v u Q I rx ry h
  obtain ⟨a, b, rfl, rfl, ha, hb', h⟩ := h
  obtain rfl : v = Value.ref a := rx
  obtain rfl : u = Value.ref b := ry
  obtain ⟨m, hF⟩ := I.fr
  obtain ⟨_, _, J⟩ := insAt_look I ha
  obtain ⟨_, _, J'⟩ := insAt_look I hb'
  show wpAny (model X.prog X.w) X.A (richCompare .Eq (.ref a) (.ref b)) (EP X pins σ Q) X.xe s
  refine PySem.W.cmp_K (op := .Eq) (tb := .ref C) hr.units0 hF I.ok.mod.kin J J'.type (by simp [PySem.W.notFirst]) hs hf ?_
  exact thn (run_fn (us := [.ref a, .ref b]) (vs := [.ref a, .ref b]) F hr hb .nil pass0 I (.cons rfl (.cons rfl .nil)) h) fun _ _ z => back_of z
/-- a def called one C frame further in -/
theorem run_in1 {pins : List (Addr × Obj)} {σ : L2.St} {H : Hp} {s : Shared} {Q : VK} {us : List Value} {vs : List V} (F : FnOk X.prog X.w X.K X.mg X.base CX0 k g fd ps sp) (hr : Room (k + 1) X.A) (hb : Binds X.K fd ps [])
    (I : Inv X pins σ H s) (r : Vals vs us) (h : sp vs H Q E0) {E : Value → Shared → Prop} : wpAny (model X.prog X.w) X.A.in1 (call (.ref g) us) (EP X pins σ Q) E s := by
  have hl : (us ++ []).length = ps.length := by rw [List.append_nil, ← r.length]; exact F.len _ _ _ _ h
  have hbb := hb s us I.kIn hl
  rw [List.append_nil] at hbb
  refine wpAny_call (codeAny_mono (F.run X.A.in1 X.stack s H ⟨us, []⟩ us vs Q E0 hr.in1 I.env0.in1 hbb r h) ?_)
  intro r' s' hq
  match r', hq with
  | .error _, hq => exact hq.elim
  | .ok (.ret _), hq => exact I.after hq
  | .ok .next, hq => exact hq.elim
  | .ok .brk, hq => exact hq.elim
  | .ok .cont, hq => exact hq.elim
/-- len(a) -/
theorem call_lenO (F : FnOk X.prog X.w X.K X.mg X.base CX0 k g fd ps sp) (hr : Room (k + 1) X.A) (hb : Binds X.K fd ps []) (hs : PySem.W.findIn X.K (.ref C) "__len__" = some (some (.ref g))) (hf : PySem.W.isFn X.K (.ref g) = true) :
    CallR X (.builtin "len") (fun xs H Q => ∃ a, xs = [.ref a] ∧ InsAt H C a ∧ sp [.ref a] H (fun v H' => ∃ n : Nat, v = .int n ∧ n < 1000000 ∧ Q (.int n) H') E0) := by
  intro pins s σ H xs us Q I r h
  obtain ⟨a, rfl, ha, h⟩ := h
  obtain ⟨u, rfl, rfl⟩ := vals1 r
  obtain ⟨m, hF⟩ := I.fr
  obtain ⟨_, _, J⟩ := insAt_look I ha
  refine PySem.W.len_K hF I.ok.mod.kin J hs hf (thn (run_in1 (us := [.ref a]) (vs := [.ref a]) F hr hb I (.cons rfl .nil) h) ?_)
  rintro v s' ⟨x, H', I', rx, n, rfl, hn, q⟩
  obtain ⟨t, rfl⟩ := rx
  exact ⟨⟨by omega, by omega⟩, ⟨.int n, H', I'.tok _, ⟨_, rfl⟩, q⟩⟩
/-- a[i] -/
theorem ix_own (F : FnOk X.prog X.w X.K X.mg X.base CX0 k g fd ps sp) (hr : Room k X.A) (hb : Binds X.K fd ps []) (hs : PySem.W.findIn X.K (.ref C) "__getitem__" = some (some (.ref g))) (hf : PySem.W.isFn X.K (.ref g) = true) (hq : PySem.W.noSeq X.K C = true) :
    ∀ (pins : List (Addr × Obj)) (s : Shared) (σ : L2.St) (H : Hp) (a : Addr) (y : V) (u : Value) (Q : VK), Inv X pins σ H s → RelV y u → InsAt H C a → sp [.ref a, y] H Q E0 →
      wpAny (model X.prog X.w) X.A (getItem (.ref a) u) (EP X pins σ Q) X.xe s := by
  intro pins s σ H a y u Q I ry ha h
  obtain ⟨m, hF⟩ := I.fr
  obtain ⟨_, _, J⟩ := insAt_look I ha
  exact PySem.W.getItem_K hF I.ok.mod.kin J hq hs hf (run_fn (us := [.ref a, u]) (vs := [.ref a, y]) F hr hb .nil pass0 I (.cons rfl (.cons ry .nil)) h)
/-- the same as an FnR -/
theorem fnR_of {P : Program} {w : World} {K : PySem.W.Frag} {mg : Str → Option Value} {base : Heap} (F : FnOk P w K mg base CX0 k g fd ps sp) (hb : Binds K fd ps []) : FnR P w K mg base CX0 k g sp := by
  intro A outer s H us vs Q E hr e0 r h
  have hl : (us ++ []).length = ps.length := by rw [List.append_nil, ← r.length]; exact F.len _ _ _ _ h
  have KX : K.In s.heap := e0.mod.kin.keeps fun b o e => (e0.bs b o e).1
  have hbb := hb s us KX hl
  rw [List.append_nil] at hbb
  exact F.run A outer s H ⟨us, []⟩ us vs Q E hr e0 hbb r h
end
end Sg

set_option Elab.async false
set_option linter.all false
set_option maxRecDepth 100000
set_option maxHeartbeats 4000000
namespace Sg
open PySem PySem.Spec PyProof.Rows L2
/-! ## != by an own __eq__ -/
theorem slot_object_ne : Slot "object" "__ne__" "object.__ne__" :=
  Slot.of (T := "object") (name := "__ne__") (owner := "object") (n := "__ne__") (by rw [typeLookup_type, builtinLookup_eq_fast]; kernel_rfl)
    (by decide +kernel) (by decide +kernel) (by decide +kernel) (.inl (by decide +kernel)) (by rw [isSubtype_type]; kernel_rfl)
section
variable {X : Cx} {k : Nat} {C g : Addr} {fd : FuncData} {ps : List Str} {sp : Sp}
theorem op_ownNe (F : FnOk X.prog X.w X.K X.mg X.base CX0 k g fd ps sp) (hr : Room (k + 2) X.A) (hb : Binds X.K fd ps []) (hs : PySem.W.findIn X.K (.ref C) "__eq__" = some (some (.ref g))) (hf : PySem.W.isFn X.K (.ref g) = true)
    (hne : PySem.W.findIn X.K (.ref C) "__ne__" = some (some (.builtin "object.__ne__"))) (hsub : PySem.W.subIn X.K (.ref C) (.type "object") = some true) :
    OpR X (compareOp .NotEq) (fun x y H Q => ∃ a b, x = .ref a ∧ y = .ref b ∧ InsAt H C a ∧ InsAt H C b ∧ sp [.ref a, .ref b] H (fun v H' => ∃ c, v = .bl c ∧ Q (.bl (!c)) H') E0) := by
  intro pins s σ H x y v u Q I rx ry h
  obtain ⟨a, b, rfl, rfl, ha, hb', h⟩ := h
  obtain rfl : v = Value.ref a := rx
  obtain rfl : u = Value.ref b := ry
  obtain ⟨_, _, J⟩ := insAt_look I ha
  obtain ⟨_, _, J'⟩ := insAt_look I hb'
  have hcall := run_in1 (us := [.ref a, .ref b]) (vs := [.ref a, .ref b]) (E := X.xe) F (hr.mono (by omega)) hb I (.cons rfl (.cons rfl .nil)) h
  have inner : wpAny (model X.prog X.w) X.A.in1 (Builtin.«object.__ne__» ⟨[.ref a, .ref b], []⟩) (fun fin s' => ∃ r, fin = .done (.ret (.bool r)) ∧ EP X pins σ Q (.bool r) s') X.xe s := by
    unfold Builtin.«object.__ne__»
    refine wpAny_bind (m := slotArgs "__ne__" 1 ⟨[.ref a, .ref b], []⟩) (wpAny_of_eq (a := (Value.ref a, [Value.ref b])) (by first | rfl | (simp only [slotArgs]; rfl)) ?_)
    refine wpAny_bind (wpAny_cRoomFor (show X.A.in1.units < cLine from (hr.mono (show k + 1 ≤ k + 2 by omega)).in1.units0) ?_)
    refine wpAny_bind (m := callSpecialIfBound? (.ref a) (Str.ofString "__eq__") [.ref b]) (PySem.W.ifBound_K I.kIn J hs hf (thn hcall ?_))
    rintro w' s' ⟨z, H', I', rz, c, rfl, q⟩
    obtain rfl : w' = Value.bool c := rz
    refine wpAny_bind (wpAny_truthy_bool ?_)
    exact wpAny_pure ⟨!c, rfl, .bl (!c), H', I', rfl, q⟩
  have isI : PySem.W.Looks (model X.prog X.w) s.heap (isInstance (.ref a) (.type "object")) true := J.type.andThen (PySem.W.looks_subIn I.kIn hsub)
  have one : wpAny (model X.prog X.w) X.A (tryCompare (.ref a) "__ne__" (.ref b)) (fun r s' => ∃ c, r = some (.bool c) ∧ EP X pins σ Q (.bool c) s') X.xe s := by
    unfold tryCompare
    have call1 : wpAny (model X.prog X.w) X.A (call (.builtin "object.__ne__") [.ref a, .ref b]) (fun r s' => ∃ c, r = .bool c ∧ EP X pins σ Q (.bool c) s') X.xe s := by
      refine wpAny_call (codeAny_call_builtin slot_object_ne.plain PySem.F.cmpEntry_ne ?_)
      refine PySem.W.check_slot PySem.F.cmpKind_ne PySem.F.cmpSplit_ne isI (PySem.F.cmpArgs_ne _ _) (thn inner ?_)
      rintro fin s' ⟨r, rfl, q⟩
      exact ⟨r, rfl, q⟩
    have call2 : wpAny (model X.prog X.w) X.A (callSpecialIfBound? (.ref a) "__ne__" [.ref b]) (fun r s' => ∃ c, r = some (.bool c) ∧ EP X pins σ Q (.bool c) s') X.xe s := by
      simp only [callSpecialIfBound?, bindSpecialIfBound?]
      refine wpAny_holding (wpAny_bind (wpAny_bind (wpAny_bind (J.type.here ((PySem.W.looks_findIn I.kIn hne).here ?_)))))
      refine wpAny_bind (wpAny_askSetting (wpAny_ite ?_))
      have fin : wpAny (model X.prog X.w) X.A (call (.builtin "object.__ne__") ([.ref a] ++ [.ref b]) >>= fun v => pure (some v)) (fun r s' => ∃ c, r = some (.bool c) ∧ EP X pins σ Q (.bool c) s') X.xe s := by
        refine wpAny_bind (thn call1 ?_)
        rintro r s' ⟨c, rfl, q⟩
        exact wpAny_pure ⟨c, rfl, q⟩
      have bind : (bindSpecial (.builtin "object.__ne__") (.ref a) : Sem _) = pure (.builtin "object.__ne__", [.ref a]) := slot_object_ne.bind (.ref a)
      split
      · rw [bind]; exact wpAny_bind (wpAny_pure (wpAny_pure (by exact fin)))
      · rw [bind]; exact wpAny_tryCatch (wpAny_bind (wpAny_pure (wpAny_pure (by exact fin))))
    refine wpAny_bind (thn call2 ?_)
    rintro r s' ⟨c, rfl, q⟩
    exact wpAny_pure ⟨c, rfl, q⟩
  show wpAny (model X.prog X.w) X.A (richCompare .NotEq (.ref a) (.ref b)) (EP X pins σ Q) X.xe s
  unfold richCompare
  simp only [oneThing_ref]
  refine wpAny_holding (wpAny_bind (wpAny_cRoomFor hr.units0 ?_))
  refine wpAny_bind (J.type.here (wpAny_bind (J'.type.here ?_)))
  rw [show (Value.ref C != Value.ref C) = false from by simp]
  simp only [Bool.false_eq_true, if_false]
  refine wpAny_bind (wpAny_pure ?_)
  simp only [Bool.false_eq_true, if_false]
  refine wpAny_bind (thn one ?_)
  rintro r s' ⟨c, rfl, q⟩
  exact wpAny_pure q
end
end Sg

set_option Elab.async false
set_option linter.all false
set_option maxRecDepth 100000
set_option maxHeartbeats 4000000
namespace Sg
open PySem PySem.Spec PyProof.Rows L2 HT
/-! ## t[::-1] of a tuple -/
section
variable {prog : Program} {w : World} {A : Around} {E : Value → Shared → Prop} {s : Shared}
theorem slicePlaces_rev (n : Nat) : Builtin.Slice.slicePlaces ((n : Int) - 1) (-1) (-1) = n := by
  unfold Builtin.Slice.slicePlaces
  have h1 : ¬ ((-1 : Int) > 0) := by omega
  simp only [h1, if_false, Int.neg_neg, Int.ediv_one]
  split <;> omega
theorem sliceApplied_rev {sl : Addr} {vl vu vs : Value} {n : Nat} {Q : Int × Int × Nat → Shared → Prop} (hs : s.heap.IsSliceOf sl vl vu vs) (pl : IsPart vl none) (pu : IsPart vu none) (ps : IsPart vs (some (-1)))
    (h : Q ((n : Int) - 1, -1, n) s) : wpAny (model prog w) A (Builtin.Slice.sliceApplied (.ref sl) (pure (n : Int))) Q E s := by
  obtain ⟨os, hos, hcs, hds⟩ := id hs
  unfold Builtin.Slice.sliceApplied Builtin.Slice.sliceFields
  refine wpAny_bind (wpAny_bind (wpAny_field hos hds (x := vl) rfl (wpAny_bind (wpAny_field hos hds (x := vu) rfl (wpAny_bind (wpAny_field hos hds (x := vs) rfl (wpAny_pure ?_)))))))
  refine wpAny_bind (slicePart_ ps ?_)
  show wpAny _ _ (if ((-1 : Int) == 0) = true then _ else _) _ _ s
  rw [if_neg (by decide)]
  refine wpAny_bind (slicePart_ pl (wpAny_bind (slicePart_ pu (wpAny_bind (wpAny_pure ?_)))))
  show wpAny _ _ (pure ((n : Int) - 1, (-1 : Int), Builtin.Slice.slicePlaces ((n : Int) - 1) (-1) (-1))) _ _ s
  rw [slicePlaces_rev]
  exact wpAny_pure h
theorem filterMap_on {α β : Type} {f g : α → Option β} : ∀ {l : List α}, (∀ x ∈ l, f x = g x) → l.filterMap f = l.filterMap g
  | [], _ => rfl
  | x :: r, h => by
    rw [List.filterMap_cons, List.filterMap_cons, h x List.mem_cons_self, filterMap_on fun y hy => h y (List.mem_cons_of_mem _ hy)]
theorem pick_rev (xs : Array Value) : ((List.range xs.size).filterMap fun (m : Nat) => xs[(((xs.size : Int) - 1) + (m : Int) * (-1)).toNat]?).toArray = xs.toList.reverse.toArray := by
  have e1 : ∀ m ∈ List.range xs.size, xs[(((xs.size : Int) - 1) + (m : Int) * (-1)).toNat]? = xs[xs.size - 1 - m]? := by
    intro m hm
    have := List.mem_range.mp hm
    rw [show (((xs.size : Int) - 1) + (m : Int) * (-1)).toNat = xs.size - 1 - m from by omega]
  have e2 : ((List.range xs.size).map fun k => xs.size - 1 - k).filterMap (xs[·]?) = xs.toList.reverse := by
    rw [PySem.W.krv_range, List.filterMap_reverse, PySem.W.krv_all]
  rw [List.filterMap_map] at e2
  rw [← e2]
  congr 1
  exact filterMap_on (fun m hm => e1 m hm)
theorem getItem_tuple_rev {t sl : Addr} {items : Array Value} {vl vu vs : Value} {Q : Value → Shared → Prop} (ht : IsTup s.heap t items) (hs : s.heap.IsSliceOf sl vl vu vs) (pl : IsPart vl none) (pu : IsPart vu none) (ps : IsPart vs (some (-1)))
    (h : Q (.ref s.heap.objs.size) { s with heap := s.heap.push { cls := .type "tuple", data := .seq items.toList.reverse.toArray } })
    (hsz : items.size ≤ sizeLine) : wpAny (model prog w) A (getItem (.ref t) (.ref sl)) Q E s := by
  have htake : sizeOk (.seq items.toList.reverse.toArray) := by
    show items.toList.reverse.toArray.size ≤ sizeLine
    rw [List.size_toArray, List.length_reverse, Array.length_toList]
    exact hsz
  obtain ⟨os, hos, hcs, hds⟩ := id hs
  have hTs : s.TypeIs (.ref sl) "slice" := ⟨os, hos, hcs⟩
  unfold getItem
  try with_reducible refine wpAny_holding ?_
  first | refine wpAny_bind (wpAny_pure ?_) | skip
  refine wpAny_bind (wpAny_sequenceKey ht.typeIs (by decide) ?_)
  refine wpAny_bind (wpAny_callSpecial?_slot (name := Str.ofString "__getitem__") ht.typeIs PyProof.Rows.slot_tuple_getitem
    (wpAny_call_entry PyProof.Rows.slot_tuple_getitem ht.typeIs entry_tuple_getitem ?_ (args_tuple_getitem _ _)))
  show wpAny _ _ (Builtin.Tuple.tupleItemsOf (.ref t) >>= _) _ _ s
  refine wpAny_bind (tupleItemsOf_ ht ?_)
  refine wpAny_bind (wpAny_typeOf hTs ?_)
  rw [if_pos (by decide)]
  refine wpAny_bind (sliceApplied_rev hs pl pu ps ?_)
  have hno : ¬ ((((items.size : Int) - 1) == 0 && (-1 : Int) == 1 && items.size == items.size) = true) := by
    rw [show ((-1 : Int) == 1) = false from by decide, Bool.and_false, Bool.false_and]
    exact Bool.false_ne_true
  show wpAny _ _ (if (((items.size : Int) - 1) == 0 && (-1 : Int) == 1 && items.size == items.size) = true then _ else _) _ _ s
  rw [if_neg hno, pick_rev]
  first
    | exact wpAny_bind (m := Builtin.Tuple.tupleExact _) (wpAny_newObj_type (wpAny_pure ⟨_, rfl, wpAny_pure h⟩) htake)
    | exact wpAny_bind (m := Builtin.Tuple.tupleExact _) (wpAny_newObj_type (wpAny_bind (wpAny_pure (wpAny_pure ⟨_, rfl, wpAny_pure h⟩))) htake)
    | exact wpAny_bind (wpAny_bind (m := Builtin.Tuple.tupleExact _) (wpAny_newObj_type (wpAny_pure (wpAny_pure ⟨_, rfl, wpAny_pure h⟩)) htake))
    | exact wpAny_bind (wpAny_bind (m := Builtin.Tuple.tupleExact _) (wpAny_newObj_type (wpAny_pure ⟨_, rfl, wpAny_pure h⟩) htake))
end
def tRevT (K : PySem.W.Frag) (te : TE) : TE := fun σ H Q => te σ H fun x H1 => ∃ a xs, x = .ref a ∧ SqT K H1 a xs ∧ ∀ p, H1 p = none → Q (.ref p) (upd H1 p (.tup xs.reverse))
theorem pe_revT {X : Cx} {K : PySem.W.Frag} {e : Expr} {te : TE} {k : Nat} {p1 p2 p3 pos : Pos} (hK : X.K = K) (he : PE X e te) : PE X (.Subscript e (.Slice none none (some (.UnaryOp .USub (.Constant (.int 1) k p1) p2)) p3) pos) (tRevT K te) := by
  subst hK
  refine ⟨fun pins s σ H Q I h => ?_⟩
  refine Subscript_ (thn (he.run pins s σ H _ I h) fun v s1 ⟨x, H1, I1, r1, q1⟩ => ?_)
  obtain ⟨a, xs, ex, hx, q⟩ := q1
  subst ex
  cases r1
  have hst : PO X (some (.UnaryOp .USub (.Constant (.int 1) k p1) p2)) (tPart (tUn (rU fun i => .int (-i)) (tC (.int 1)))) := po_some (pe_un un_neg pe_int)
  refine wpAny_Slice (thn (po_none.run pins s1 σ H1 (fun o H2 => o = none ∧ H2 = H1) I1 ⟨rfl, rfl⟩) fun vl s2 ⟨l, H2, I2, pl, el, e2⟩ => ?_)
  subst el e2
  refine thn (po_none.run pins s2 σ H2 (fun o H3 => o = none ∧ H3 = H2) I2 ⟨rfl, rfl⟩) fun vu s3 ⟨u, H3, I3, pu, eu, e3⟩ => ?_
  subst eu e3
  refine thn (hst.run pins s3 σ H3 (fun o H4 => o = some (-1) ∧ H4 = H3) I3 ⟨1, rfl, -1, rfl, rfl, rfl⟩) fun vs s4 ⟨o, H4, I4, ps, eo, e4⟩ => ?_
  subst eo e4
  have I5 : Inv X pins σ H4 { s4 with heap := s4.heap.push { cls := .type "slice", data := .fields #[vl, vu, vs] } } := I4.kept (t' := s4.toks) fun b ob q => Heap.get?_push_of_some _ q
  obtain ⟨its, r, ht, hz⟩ := I5.tuple hx
  have hlen := r.length
  show wpAny (model X.prog X.w) X.A (subscriptTail e (.Slice none none (some (.UnaryOp .USub (.Constant (.int 1) k p1) p2)) p3) (.ref a) (.ref s4.heap.objs.size)) (EP X pins σ Q) X.xe { s4 with heap := s4.heap.push { cls := .type "slice", data := .fields #[vl, vu, vs] } }
  refine tail_any (ops := [.ref a, .ref s4.heap.objs.size]) ht.typeIs PyProof.Rows.slot_tuple_getitem.lookup ?_ (by with_unfolding_all rfl)
  refine getItem_tuple_rev ht (Heap.IsSliceOf.new _ vl vu vs) pl pu ps ?_ (by rw [List.size_toArray]; omega)
  refine ⟨.ref _, _, I5.laid (t' := s4.toks) (o := .tup xs.reverse) (fun b ob q => Heap.get?_push_of_some _ q) (Nat.le_refl _) ?_, rfl, q _ (I5.hok.fresh (Nat.le_refl _))⟩
  exact ⟨by rw [List.length_reverse]; exact hz, _, r.reverse, IsTup.new _ _⟩
end Sg

set_option Elab.async false
set_option linter.all false
set_option maxRecDepth 100000
set_option maxHeartbeats 4000000
namespace Sg
open PySem PySem.Spec PyProof.Rows L2
/-! ## d.setdefault(t, v), t a tuple of ints and texts -/
def rSetdT : V → List V → Hp → VK → Prop := fun x xs H Q => ∃ (a : Addr) (kvs : List (List L2.Key × V)) (k : List L2.Key) (b : Addr) (d : V), x = .ref a ∧ xs = [.ref b, d] ∧ H a = some (.dT kvs) ∧ H b = some (.tup (k.map kV)) ∧ kvs.length < sizeLine ∧
  (∀ v, valV kvs k = some v → Q v H) ∧ (valV kvs k = none → Q d (upd H a (.dT (putK kvs k d))))
theorem mt_setdT {X : Cx} (hu : X.A.units + 1 < cLine) : MtR X "dict.setdefault" rSetdT := by
  intro pins s σ H x xs v us Q I rx rxs h
  obtain ⟨a, kvs, k, b, d, rfl, rfl, ha, hb, hl, q1, q2⟩ := h
  cases rx
  obtain ⟨u1, u2, rfl, r1, r2⟩ := vals2 rxs
  cases r1
  obtain ⟨z, hd, xs', rel, dd⟩ := dt_of I.hok ha
  have hz : xs'.length ≤ sizeLine := by rw [← Paired.length rel]; exact z
  refine call_meetsIn PySem.F.slot_dict_setdefault dd.typeIs PySem.F.entry_dict_setdefault (PySem.F.args_dict_setdefault_3 _ _ _) (meetsH_dict_setdefault (tupleKind (mixKind X.prog X.w)) a b hd u2)
    ⟨tupleKind_room_in1 hu, k, xs', key_of I.hok hb, dd, hz, fun p hp => ?_, fun hn h' dd' hs => ?_⟩
  · have r := rel.val k
    rw [hp] at r
    obtain ⟨v0, ev, rv⟩ : ∃ v0, valV kvs k = some v0 ∧ RelV v0 p.2 := by
      cases ev : valV kvs k with
      | none =>
        rw [ev] at r
        exact (show False from r).elim
      | some v0 =>
        rw [ev] at r
        exact ⟨v0, rfl, r⟩
    exact ⟨v0, H, I.tok _, rv, q1 v0 ev⟩
  · have r := rel.val k
    rw [hn] at r
    have e : valV kvs k = none := by
      cases ev : valV kvs k with
      | none => rfl
      | some v0 =>
        rw [ev] at r
        exact (show False from r).elim
    have hl2 : (putK kvs k d).length ≤ sizeLine := by
      have := length_putK kvs k d
      omega
    obtain ⟨o, es, ep, hq, h2, h3, h4, _, h5⟩ := dd'
    refine ⟨d, _, ?_, r2, q2 e⟩
    exact d_write I (by rw [ha]; exact True.intro) hs ⟨o, hq⟩ ⟨hl2, hd, _, (rel.put k hb r2).keeps (fun c ys ec => (by rw [upd_ne (ne_of ec ha (fun z => nomatch z))]; exact ec)), o, es, ep, hq, h2, h3, h4, h5⟩
end Sg

set_option Elab.async false
set_option linter.all false
set_option maxRecDepth 100000
set_option maxHeartbeats 4000000
namespace Sg
open PySem PySem.Spec PyProof.Rows L2
/-! ## for k, v in d.items(), d with tuples as keys -/
theorem pair_at {α β : Type} {G : α → β → Prop} : ∀ {l : List α} {m : List β}, Paired G l m → ∀ {i : Nat} {x : α}, l[i]? = some x → ∃ y, m[i]? = some y ∧ G x y
  | _, _, .nil, i, x, e => nomatch e
  | _, _, .cons r t, 0, x, e => by
    cases e
    exact ⟨_, rfl, r⟩
  | _, _, .cons r t, i + 1, x, e => pair_at t (i := i) (by simpa using e)
/-- the entries, as new pairs of the key's own tuple and the value -/
def IteT (d : Addr) (ob : Obj) (es : List (List L2.Key × V)) : It where
  go := fun j G => G d = some (.frz ob (.dT es)) ∧ j < es.length
  yld := fun j G x G' => ∃ t r k u, es[j]? = some (k, u) ∧ G r = some (.tup (k.map kV)) ∧ x = .ref t ∧ G t = none ∧ G' = upd G t (.tup [.ref r, u])
  stop := fun j G => G d = some (.frz ob (.dT es)) ∧ es.length ≤ j
section
variable {X : Cx} {pins : List (Addr × Obj)} {σ : L2.St} {H : Hp} {s : Shared} {d : Addr} {ob : Obj}
theorem frz_dT {ks : List (List L2.Key × V)} (I : Inv X pins σ H s) (h : H d = some (.frz ob (.dT ks))) : (d == sysModules) = false ∧ ∃ (es : Array DictEntry) (ep : Nat), DT.Raw s.heap d es ep ∧ ob.data = .dict es ep ∧ es.size = ks.length ∧
    ∀ (i : Nat) (k : List L2.Key) (v : V), ks[i]? = some (k, v) → ∃ (en : DictEntry) (q : Addr), es[i]? = some en ∧ en.key = .ref q ∧ RelV v en.val ∧ H q = some (.tup (k.map kV)) := by
  obtain ⟨g, _, ns, ys, pr, o2, es, ep, g2, hx, hdt, he, _⟩ := I.hok d _ h
  rw [g] at g2
  cases g2
  have l1 : es.size = ys.length := by
    have := congrArg List.length he
    rw [List.length_map, Array.length_toList] at this
    exact this
  have l2 : ks.length = ys.length := Paired.length pr
  refine ⟨ns, es, ep, ⟨ob, g, hx, hdt⟩, hdt, by omega, fun i k v e => ?_⟩
  obtain ⟨b, hb, e1, e2, e3⟩ := pair_at pr e
  have q : es[i]? = some (entryOfKey (tupleKind (mixKind X.prog X.w)) b) := by
    rw [← Array.getElem?_toList, he, List.getElem?_map, hb]
    rfl
  exact ⟨_, b.2.1, q, rfl, e3, e2⟩
end
theorem same_dict {o : Obj} {x y : Array DictEntry} {m n : Nat} (h : o.data = .dict x m) (h' : o.data = .dict y n) : y = x ∧ n = m := by
  rw [h] at h'
  cases h'
  exact ⟨rfl, rfl⟩
section
variable {P : Program} {w : World} {K : PySem.W.Frag} {d : Addr} {o : Obj} {es : Array DictEntry} {ep : Nat}
theorem turn_itemsT {ks : List (List L2.Key × V)} {elts : List Expr} {kk : Nat} {tpos : Pos} (it : Addr) (hod : o.data = .dict es ep) (hsz : es.size = ks.length) :
    Turn P w K (.Tuple elts kk tpos) (IteT d o ks) [it] it (fun i h => ∃ x y, IsItemIter h it d i es.size ep x y) where
  mem := List.mem_singleton.mpr rfl
  obj := by
    rintro i h ⟨x, y, e⟩ b hb
    obtain rfl := List.mem_singleton.mp hb
    exact ⟨_, e, fun v z => nomatch z⟩
  keep := by
    rintro i h h' ⟨x, y, e⟩ k
    exact ⟨x, y, k it (List.mem_singleton.mpr rfl) _ e⟩
  item := by
    intro X e1 e2 e3 hc i pins s σ H E I hf ⟨x, y, st⟩ ⟨hd, hi⟩
    subst e1 e2 e3
    obtain ⟨ns, es2, ep2, raw, hdt, hz, ent⟩ := frz_dT I hd
    obtain ⟨rfl, rfl⟩ := same_dict hod hdt
    obtain ⟨⟨k, v⟩, hkv⟩ : ∃ p, ks[i]? = some p := ⟨ks[i], List.getElem?_eq_getElem hi⟩
    obtain ⟨en, q, g1, g2, g3, g4⟩ := ent i k v hkv
    have hi2 : i < es2.size := by omega
    have g5 : es2[i] = en := by
      rw [Array.getElem?_eq_getElem hi2] at g1
      exact Option.some.inj g1
    have below : it < s.heap.objs.size := Heap.lt_size st
    have apart : s.heap.objs.size ≠ it := Nat.ne_of_gt below
    refine DT.nextI st raw hi2 fun h1 ho hT hz1 hk => ?_
    refine ⟨_, rfl, wpAny_letOwnedTupleGo_items (s := { s with heap := h1 }) ho fun h2 he sb => ?_⟩
    rw [g5] at hT he
    rw [g2] at hT
    have hT2 := (sb.2 s.heap.objs.size apart).trans hT
    have new : ObjOk X.prog X.w (upd H s.heap.objs.size (.tup [.ref q, v])) h2 s.heap.objs.size (.tup [.ref q, v]) :=
      ⟨by show 2 ≤ sizeLine; decide, [.ref q, en.val], .cons rfl (.cons g3 .nil), ⟨_, hT2, rfl, _, rfl⟩⟩
    have only : ∀ {b : Addr}, b ∉ [it] → b ≠ it := fun hb z => hb (List.mem_singleton.mpr z)
    have J := I.turnedNew (t' := s.toks) (ch := [it]) (fun b ob hb e => (sb.2 b (only hb)).trans (hk b ob (only hb) e)) hf (Nat.le_refl _) new
    refine ⟨.ref s.heap.objs.size, _, J, rfl, ⟨_, q, k, v, hkv, g4, rfl, I.hok.fresh (Nat.le_refl _), rfl⟩, ⟨_, _, he⟩, fun b hb => ?_⟩
    obtain rfl := List.mem_singleton.mp hb
    rw [upd_ne apart.symm]
    exact (hf b hb).1
  done := by
    intro X e1 e2 e3 hc i pins s σ H E I hf ⟨x, y, st⟩ ⟨hd, hi⟩
    subst e1 e2 e3
    obtain ⟨f0, f1, f2, f3, f4, f5⟩ := hf it (List.mem_singleton.mpr rfl)
    obtain ⟨ns, es2, ep2, raw, hdt, hz, ent⟩ := frz_dT I hd
    obtain ⟨rfl, rfl⟩ := same_dict hod hdt
    exact DT.endI (I.ok.hd hc) st raw (by omega) fun h1 eb => ⟨rfl, I.turned (t' := s.toks) (fun b ob hb e => eb b ob hb e) f0 f1 f3 f4 f5⟩
  self := by
    rintro A i s Q E ⟨x, y, e⟩ h
    exact PySem.W.kcp_self e h
end
def iItemsT (td : TE) : TI := fun σ H R => td σ H fun x H1 => ∃ d ob ks, x = .ref d ∧ H1 d = some (.frz ob (.dT ks)) ∧ R (IteT d ob ks) H1
theorem pi_itemsT {X : Cx} {e : Expr} {td : TE} {p1 p2 : Pos} {elts : List Expr} {kk : Nat} {tpos : Pos} (he : PE X e td) (hb : attributeBase e "items" X.env (eval e X.env) = eval e X.env := by rfl) (hl : (p1.endLine == p2.line) = true := by rfl) :
    PI X (.Tuple elts kk tpos) (.Call (.Attribute e "items" p1) [] [] p2) (iItemsT td) := by
  refine ⟨fun pins s σ H R I h => ?_⟩
  refine wpAny_Call_method (T := "dict") (id := "dict.items") hb rfl hl PySem.F.plainAttrs_dict PySem.F.slot_dict_items PySem.F.type_dict_items (thn (he.run pins s σ H _ I h) fun u s1 ⟨x, H1, I1, rx, d, ob, ks, ex, hd, q⟩ => ?_)
  subst ex
  obtain rfl : u = Value.ref d := rx
  obtain ⟨ns, es, ep, raw, hdt, hz, ent⟩ := frz_dT I1 hd
  obtain ⟨o2, g1, g2, g3⟩ := id raw
  refine ⟨raw.typeIs, ?_, ?_⟩
  · intro b e
    injection e with e
    subst e
    exact ⟨o2, g1, g2.2.1⟩
  have I2 : Inv X pins σ H1 { s1 with heap := s1.heap.push { cls := .type "dict_items", data := .fields #[.ref d] } } := I1.kept (t' := s1.toks) fun b o z => Heap.get?_push_of_some _ z
  have fin : wpAny (model X.prog X.w) X.A (pyIter (.ref s1.heap.objs.size)) (PIE X pins σ (.Tuple elts kk tpos) R) X.xe { s1 with heap := s1.heap.push { cls := .type "dict_items", data := .fields #[.ref d] } } :=
    DT.iterI (d := d) ⟨_, Heap.get?_push_size _ rfl, rfl, rfl⟩ (raw.push _) (pi_one (tk := s1.toks) I2 _ (turn_itemsT _ hdt hz) ⟨_, _, Heap.get?_push_size _ rfl⟩ q)
  show wpAny _ _ (callWith p2 (.builtin "dict.items") [.ref d] [] []) _ X.xe s1
  exact method_meetsIn PySem.F.slot_dict_items PySem.F.entry_dict_items rfl (PySem.evalArgs_none ⟨rfl, raw.typeIs, PySem.F.args_dict_items_1 _, _, DT.meetsItems (es := es) (ep := ep) ns, ⟨raw, fin⟩⟩)
theorem walk_itemsT {d : Addr} {ob : Obj} {ks : List (List L2.Key × V)} : Walk (IteT d ob ks) ks.length (fun G => G d = some (.frz ob (.dT ks)))
    (fun j G x G' => ∃ t r k u, ks[j]? = some (k, u) ∧ G r = some (.tup (k.map kV)) ∧ x = .ref t ∧ G t = none ∧ G' = upd G t (.tup [.ref r, u])) :=
  ⟨fun _ _ h q => ⟨q, h⟩, fun _ q => ⟨q, Nat.le_refl _⟩, fun _ _ _ _ _ _ y => y⟩
end Sg

set_option Elab.async false
set_option linter.all false
set_option maxRecDepth 100000
set_option maxHeartbeats 4000000
namespace Sg
open PySem PySem.Spec PyProof.Rows L2
/-! ## min(xs, default=z), xs a list of data that are alike -/
theorem vals_back : ∀ {ys : List V} {us : List Value}, Vals ys us → ∀ {i : Nat} {v : Value}, us[i]? = some v → ∃ y, ys[i]? = some y ∧ RelV y v
  | _, _, .nil, i, v, e => nomatch e
  | _, _, .cons r t, 0, v, e => by
    cases e
    exact ⟨_, rfl, r⟩
  | _, _, .cons r t, i + 1, v, e => vals_back t (i := i) (by simpa using e)
theorem reads_back {h : Heap} : ∀ {us : List Value} {ds : List PyData} {as : List Addr}, ReadsAll h us ds as → ∀ {i : Nat} {v : Value}, us[i]? = some v → ∃ d bs, ds[i]? = some d ∧ Reads h v d bs
  | _, _, _, .nil, i, v, e => nomatch e
  | _, _, _, .cons r t, 0, v, e => by
    cases e
    exact ⟨_, _, rfl, r⟩
  | _, _, _, .cons r t, i + 1, v, e => reads_back t (i := i) (by simpa using e)
theorem cr_minD {X : Cx} (hc : X.calm = true) {j : Nat} (hr : Room j X.A) : CallRK X (.builtin "min") ["default"] (fun vs zs H Q => ∃ (a : Addr) (ys : List V) (ds : List PyData) (z : V), vs = [.ref a] ∧ zs = [z] ∧ SqL X.K H a ys ∧ DpAll X.K H ys ds ∧
    PySem.W.AlikeAll ds ∧ PyData.depthAll ds ≤ 10 ∧ (ds = [] → Q z H) ∧ (∀ (i : Nat) (y : V) (e : PyData) (es : List PyData), ds = e :: es → ys[i]? = some y → ds[i]? = some (PySem.W.minD e es) → Q y H)) := by
  intro pins s σ H xs zs us ws Q I r rz h
  obtain ⟨a, ys, ds, z, rfl, rfl, hs, dp, al, dep, q1, q2⟩ := h
  obtain ⟨u, rfl, rfl⟩ := vals1 r
  obtain ⟨dv, rfl, rd0⟩ := vals1 rz
  obtain ⟨its, rv, hl, hzz⟩ := I.list hs
  obtain ⟨as, rd⟩ := Dp.readsAll I ds _ its dp rv
  have hu := hr.units
  refine PySem.W.min_list_default (I.ok.hd hc) hl.isList (by simpa using rd) al (by omega) (fun e h' tk hk => ?_) (fun e es i v h' tk bs ee hv hrd hk => ?_)
  · exact ⟨z, H, I.kept hk, rd0, q1 e⟩
  · have hv' : its[i]? = some v := by simpa using hv
    obtain ⟨y, hy, ry⟩ := vals_back rv hv'
    obtain ⟨d, bs2, hd, rd2⟩ := reads_back rd hv'
    obtain ⟨e1, _⟩ := reads_det (fun b o g _ => hk b o g) rd2 hrd
    rw [← e1] at hd
    exact ⟨y, H, I.kept hk, ry, q2 i y e es ee hy hd⟩
end Sg

set_option Elab.async false
set_option linter.all false
set_option maxRecDepth 100000
set_option maxHeartbeats 4000000
namespace Sg
open PySem PySem.Spec PyProof.Rows L2
/-! the places of the text -/
def topS (i : Nat) : Stmt := PySem.Challenge.pw_startgaps_k12_laps_fit_and_their_means.main.body.getD i (.Pass ⟨0, 0, 0, 0⟩)
abbrev s_wall : Stmt := topS 1
theorem sc_wall : FnScope ["k"] ["k"] (defScope s_wall) := ⟨rfl, rfl, rfl, by decide +kernel, rfl, by decide +kernel, by decide +kernel⟩
abbrev s_TooMany_init : Stmt := inClass (topS 10) 0
theorem sc_TooMany_init : FnScope ["self", "amount", "limit"] ["self", "amount", "limit"] (defScope s_TooMany_init) := ⟨rfl, rfl, rfl, by decide +kernel, rfl, by decide +kernel, by decide +kernel⟩
abbrev s_TooMany_str : Stmt := inClass (topS 10) 1
theorem sc_TooMany_str : FnScope ["self"] ["self"] (defScope s_TooMany_str) := ⟨rfl, rfl, rfl, by decide +kernel, rfl, by decide +kernel, by decide +kernel⟩
abbrev s_is_int : Stmt := topS 12
theorem sc_is_int : FnScope ["thing"] ["thing"] (defScope s_is_int) := ⟨rfl, rfl, rfl, by decide +kernel, rfl, by decide +kernel, by decide +kernel⟩
abbrev s_is_between : Stmt := topS 13
theorem sc_is_between : FnScope ["thing", "least", "most"] ["thing", "least", "most"] (defScope s_is_between) := ⟨rfl, rfl, rfl, by decide +kernel, rfl, by decide +kernel, by decide +kernel⟩
abbrev s_fraction : Stmt := topS 14
theorem sc_fraction : FnScope ["top", "bottom", "shared"] ["top", "bottom"] (defScope s_fraction) := ⟨rfl, rfl, rfl, by decide +kernel, rfl, by decide +kernel, by decide +kernel⟩
abbrev s_is_work : Stmt := topS 19
theorem sc_is_work : FnScope ["thing", "item"] ["thing"] (defScope s_is_work) := ⟨rfl, rfl, rfl, by decide +kernel, rfl, by decide +kernel, by decide +kernel⟩
abbrev s_bars : Stmt := topS 20
theorem sc_bars : FnScope ["one", "other", "distance"] ["one", "other"] (defScope s_bars) := ⟨rfl, rfl, rfl, by decide +kernel, rfl, by decide +kernel, by decide +kernel⟩
abbrev s_require_work : Stmt := topS 21
theorem sc_require_work : FnScope ["thing"] ["thing"] (defScope s_require_work) := ⟨rfl, rfl, rfl, by decide +kernel, rfl, by decide +kernel, by decide +kernel⟩
abbrev s_clashes_behind : Stmt := topS 22
theorem sc_clashes_behind : FnScope ["one", "other", "distance", "here", "there"] ["one", "other", "distance"] (defScope s_clashes_behind) := ⟨rfl, rfl, rfl, by decide +kernel, rfl, by decide +kernel, by decide +kernel⟩
abbrev s_is_kind : Stmt := topS 25
theorem sc_is_kind : FnScope ["line", "thing"] ["line", "thing"] (defScope s_is_kind) := ⟨rfl, rfl, rfl, by decide +kernel, rfl, by decide +kernel, by decide +kernel⟩
abbrev s_require_kind : Stmt := topS 26
theorem sc_require_kind : FnScope ["line", "thing"] ["line", "thing"] (defScope s_require_kind) := ⟨rfl, rfl, rfl, by decide +kernel, rfl, by decide +kernel, by decide +kernel⟩
abbrev s_bars_of_all : Stmt := topS 27
theorem sc_bars_of_all : FnScope ["works", "other", "one"] ["works"] (defScope s_bars_of_all) := ⟨rfl, rfl, rfl, by decide +kernel, rfl, by decide +kernel, by decide +kernel⟩
abbrev s_Line_init : Stmt := inClass (topS 28) 0
theorem sc_Line_init : FnScope ["self", "works", "work", "row", "pair", "bar"] ["self", "works"] (defScope s_Line_init) := ⟨rfl, rfl, rfl, by decide +kernel, rfl, by decide +kernel, by decide +kernel⟩
abbrev s_Line_works : Stmt := inClass (topS 28) 1
theorem sc_Line_works : FnScope ["self"] ["self"] (defScope s_Line_works) := ⟨rfl, rfl, rfl, by decide +kernel, rfl, by decide +kernel, by decide +kernel⟩
abbrev s_Line_reach : Stmt := inClass (topS 28) 2
theorem sc_Line_reach : FnScope ["self"] ["self"] (defScope s_Line_reach) := ⟨rfl, rfl, rfl, by decide +kernel, rfl, by decide +kernel, by decide +kernel⟩
abbrev s_Line_len : Stmt := inClass (topS 28) 3
theorem sc_Line_len : FnScope ["self"] ["self"] (defScope s_Line_len) := ⟨rfl, rfl, rfl, by decide +kernel, rfl, by decide +kernel, by decide +kernel⟩
abbrev s_Line_getitem : Stmt := inClass (topS 28) 4
theorem sc_Line_getitem : FnScope ["self", "at"] ["self", "at"] (defScope s_Line_getitem) := ⟨rfl, rfl, rfl, by decide +kernel, rfl, by decide +kernel, by decide +kernel⟩
abbrev s_Line_iter : Stmt := inClass (topS 28) 5
theorem sc_Line_iter : FnScope ["self"] ["self"] (defScope s_Line_iter) := ⟨rfl, rfl, rfl, by decide +kernel, rfl, by decide +kernel, by decide +kernel⟩
abbrev s_Line_call : Stmt := inClass (topS 28) 6
theorem sc_Line_call : FnScope ["self", "one", "other"] ["self", "one", "other"] (defScope s_Line_call) := ⟨rfl, rfl, rfl, by decide +kernel, rfl, by decide +kernel, by decide +kernel⟩
abbrev s_Line_add : Stmt := inClass (topS 28) 7
theorem sc_Line_add : FnScope ["self", "other", "works"] ["self", "other"] (defScope s_Line_add) := ⟨rfl, rfl, rfl, by decide +kernel, rfl, by decide +kernel, by decide +kernel⟩
abbrev s_Line_radd : Stmt := inClass (topS 28) 8
theorem sc_Line_radd : FnScope ["self", "other"] ["self", "other"] (defScope s_Line_radd) := ⟨rfl, rfl, rfl, by decide +kernel, rfl, by decide +kernel, by decide +kernel⟩
abbrev s_Line_sub : Stmt := inClass (topS 28) 9
theorem sc_Line_sub : FnScope ["self", "other", "works"] ["self", "other"] (defScope s_Line_sub) := ⟨rfl, rfl, rfl, by decide +kernel, rfl, by decide +kernel, by decide +kernel⟩
abbrev s_Line_neg : Stmt := inClass (topS 28) 10
theorem sc_Line_neg : FnScope ["self", "works", "work"] ["self"] (defScope s_Line_neg) := ⟨rfl, rfl, rfl, by decide +kernel, rfl, by decide +kernel, by decide +kernel⟩
abbrev s_Line_eq : Stmt := inClass (topS 28) 11
theorem sc_Line_eq : FnScope ["self", "other"] ["self", "other"] (defScope s_Line_eq) := ⟨rfl, rfl, rfl, by decide +kernel, rfl, by decide +kernel, by decide +kernel⟩
abbrev s_Line_repr : Stmt := inClass (topS 28) 12
theorem sc_Line_repr : FnScope ["self"] ["self"] (defScope s_Line_repr) := ⟨rfl, rfl, rfl, by decide +kernel, rfl, by decide +kernel, by decide +kernel⟩
abbrev s_require_line : Stmt := topS 29
theorem sc_require_line : FnScope ["thing"] ["thing"] (defScope s_require_line) := ⟨rfl, rfl, rfl, by decide +kernel, rfl, by decide +kernel, by decide +kernel⟩
abbrev s_fits : Stmt := topS 33
theorem sc_fits : FnScope ["line", "lap", "tick"] ["line", "lap"] (defScope s_fits) := ⟨rfl, rfl, rfl, by decide +kernel, rfl, by decide +kernel, by decide +kernel⟩
abbrev s_mean : Stmt := topS 34
theorem sc_mean : FnScope ["line", "lap", "worths", "choice"] ["line", "lap", "worths"] (defScope s_mean) := ⟨rfl, rfl, rfl, by decide +kernel, rfl, by decide +kernel, by decide +kernel⟩
abbrev s_is_lap : Stmt := topS 35
theorem sc_is_lap : FnScope ["line", "thing", "item"] ["line", "thing"] (defScope s_is_lap) := ⟨rfl, rfl, rfl, by decide +kernel, rfl, by decide +kernel, by decide +kernel⟩
abbrev s_worth_of : Stmt := topS 36
theorem sc_worth_of : FnScope ["worths", "choice"] ["worths", "choice"] (defScope s_worth_of) := ⟨rfl, rfl, rfl, by decide +kernel, rfl, by decide +kernel, by decide +kernel⟩
abbrev s_require_lap : Stmt := topS 37
theorem sc_require_lap : FnScope ["line", "thing"] ["line", "thing"] (defScope s_require_lap) := ⟨rfl, rfl, rfl, by decide +kernel, rfl, by decide +kernel, by decide +kernel⟩
abbrev s_require_worths : Stmt := topS 38
theorem sc_require_worths : FnScope ["line", "thing"] ["line", "thing"] (defScope s_require_worths) := ⟨rfl, rfl, rfl, by decide +kernel, rfl, by decide +kernel, by decide +kernel⟩
abbrev s_is_worths : Stmt := topS 39
theorem sc_is_worths : FnScope ["line", "thing", "worth"] ["line", "thing"] (defScope s_is_worths) := ⟨rfl, rfl, rfl, by decide +kernel, rfl, by decide +kernel, by decide +kernel⟩
abbrev s_clashes : Stmt := topS 40
theorem sc_clashes : FnScope ["line", "lap", "tick", "kind", "other", "bar"] ["line", "lap", "tick"] (defScope s_clashes) := ⟨rfl, rfl, rfl, by decide +kernel, rfl, by decide +kernel, by decide +kernel⟩
abbrev s_l_cell : Stmt := topS 42
theorem sc_l_cell : FnScope ["_law_script", "_law_k"] ["_law_script", "_law_k"] (defScope s_l_cell) := ⟨rfl, rfl, rfl, by decide +kernel, rfl, by decide +kernel, by decide +kernel⟩
abbrev s_l_pen : Stmt := topS 43
theorem sc_l_pen : FnScope ["_law_cell_here"] ["_law_cell_here"] (defScope s_l_pen) := ⟨rfl, rfl, rfl, by decide +kernel, rfl, by decide +kernel, by decide +kernel⟩
abbrev s_l_draw : Stmt := topS 44
theorem sc_l_draw : FnScope ["_law_pen_here", "_law_many", "_law_found", "_law_stirred"] ["_law_pen_here", "_law_many"] (defScope s_l_draw) := ⟨rfl, rfl, rfl, by decide +kernel, rfl, by decide +kernel, by decide +kernel⟩
abbrev s_l_pick : Stmt := topS 45
theorem sc_l_pick : FnScope ["_law_pen_here", "_law_some"] ["_law_pen_here", "_law_some"] (defScope s_l_pick) := ⟨rfl, rfl, rfl, by decide +kernel, rfl, by decide +kernel, by decide +kernel⟩
abbrev s_l_same : Stmt := topS 46
theorem sc_l_same : FnScope ["_law_found", "_law_due"] ["_law_found", "_law_due"] (defScope s_l_same) := ⟨rfl, rfl, rfl, by decide +kernel, rfl, by decide +kernel, by decide +kernel⟩
abbrev s_l_work : Stmt := topS 47
theorem sc_l_work : FnScope ["_law_pen_here", "_law_most", "_law_stations", "_law_way", "_law_long", "_law_items", "_law_turn"] ["_law_pen_here", "_law_most", "_law_stations"] (defScope s_l_work) := ⟨rfl, rfl, rfl, by decide +kernel, rfl, by decide +kernel, by decide +kernel⟩
abbrev s_l_made : Stmt := topS 48
theorem sc_l_made : FnScope ["_law_works_here"] ["_law_works_here"] (defScope s_l_made) := ⟨rfl, rfl, rfl, by decide +kernel, rfl, by decide +kernel, by decide +kernel⟩
abbrev s_l_works : Stmt := topS 49
theorem sc_l_works : FnScope ["_law_pen_here", "_law_many", "_law_stations", "_law_turn"] ["_law_pen_here"] (defScope s_l_works) := ⟨rfl, rfl, rfl, by decide +kernel, rfl, by decide +kernel, by decide +kernel⟩
abbrev s_l_fits : Stmt := topS 50
theorem sc_l_fits : FnScope ["_law_works_here", "_law_lap_here", "_law_taken", "_law_tick", "_law_work_here", "_law_kind", "_law_step", "_law_at"] ["_law_works_here", "_law_lap_here"] (defScope s_l_fits) := ⟨rfl, rfl, rfl, by decide +kernel, rfl, by decide +kernel, by decide +kernel⟩
abbrev s_l_low : Stmt := topS 51
theorem sc_l_low : FnScope ["_law_top", "_law_bottom", "_law_one", "_law_other"] ["_law_top", "_law_bottom"] (defScope s_l_low) := ⟨rfl, rfl, rfl, by decide +kernel, rfl, by decide +kernel, by decide +kernel⟩
abbrev s_l_mean : Stmt := topS 52
theorem sc_l_mean : FnScope ["_law_lap_here", "_law_worths_here", "_law_one"] ["_law_lap_here", "_law_worths_here"] (defScope s_l_mean) := ⟨rfl, rfl, rfl, by decide +kernel, rfl, by decide +kernel, by decide +kernel⟩
abbrev s_l_lap : Stmt := topS 53
theorem sc_l_lap : FnScope ["_law_pen_here", "_law_many", "_law_most", "_law_share", "_law_some", "_law_turn"] ["_law_pen_here", "_law_many", "_law_most"] (defScope s_l_lap) := ⟨rfl, rfl, rfl, by decide +kernel, rfl, by decide +kernel, by decide +kernel⟩
abbrev s_l_worths : Stmt := topS 54
theorem sc_l_worths : FnScope ["_law_pen_here", "_law_many", "_law_some", "_law_turn"] ["_law_pen_here", "_law_many"] (defScope s_l_worths) := ⟨rfl, rfl, rfl, by decide +kernel, rfl, by decide +kernel, by decide +kernel⟩
abbrev s_l_is_right : Stmt := topS 55
theorem sc_l_is_right : FnScope ["_law_works_here", "_law_lap_here", "_law_worths_here", "_law_made_here", "_law_kept", "_law_due", "_law_told", "_law_turn"] ["_law_works_here", "_law_lap_here", "_law_worths_here"] (defScope s_l_is_right) := ⟨rfl, rfl, rfl, by decide +kernel, rfl, by decide +kernel, by decide +kernel⟩
abbrev s_law : Stmt := topS 56
theorem sc_law : FnScope ["_law_script", "_law_work_here", "_law_some", "_law_lap_here", "_law_long", "_law_line", "_law_cell_here", "_law_pen_here", "_law_turn", "_law_works_here"] ["_law_script"] (defScope s_law) := ⟨rfl, rfl, rfl, by decide +kernel, rfl, by decide +kernel, by decide +kernel⟩
end Sg

set_option Elab.async false
set_option linter.all false
set_option maxRecDepth 100000
set_option maxHeartbeats 4000000
namespace Sg
open PySem PySem.Spec PyProof.Rows L2
/-! ## heaps -/
/-- all but p is as it was -/
def But (p : Addr) (H H' : Hp) : Prop := ∀ q o, q ≠ p → H q = some o → H' q = some o
theorem But.refl (p : Addr) (H : Hp) : But p H H := fun _ _ _ h => h
theorem But.trans {p : Addr} {H H1 H2 : Hp} (a : But p H H1) (b : But p H1 H2) : But p H H2 := fun q o n h => b q o n (a q o n h)
theorem But.of {p : Addr} {H H' : Hp} (a : Same H H') : But p H H' := fun q o _ h => a q o h
theorem But.upd {p : Addr} {H : Hp} {o : HO} : But p H (upd H p o) := fun q u n h => by rw [upd_ne n]; exact h
theorem same_new {H : Hp} {p : Addr} {o : HO} (h : H p = none) : Same H (upd H p o) := fun b x e => by
  rw [upd_ne (ne_of_none e h)]
  exact e
/-- what is new behind a But is new ahead -/
theorem But.free {p q : Addr} {H H' : Hp} {u : HO} (e : But p H H') (hp : H p = some u) (hp' : ∃ v, H' p = some v) (h : H' q = none) : H q = none := by
  by_cases n : q = p
  · subst n
    obtain ⟨v, hv⟩ := hp'
    rw [hv] at h
    exact nomatch h
  · rcases z : H q with _ | o
    · rfl
    · rw [e q o n z] at h
      exact nomatch h
theorem But.tup {K : PySem.W.Frag} {p : Addr} {H H' : Hp} {a : Addr} {xs ys : List V} (e : But p H H') (hp : H p = some (.lst ys)) (h : SqT K H a xs) : SqT K H' a xs := by
  rcases h with (h | ⟨o, h⟩) | h
  · exact .inl (.inl (e _ _ (ne_of h hp (fun z => nomatch z)) h))
  · exact .inl (.inr ⟨o, e _ _ (ne_of h hp (fun z => nomatch z)) h⟩)
  · exact .inr h
theorem Same.tup {K : PySem.W.Frag} {H H' : Hp} {a : Addr} {xs : List V} (e : Same H H') (h : SqT K H a xs) : SqT K H' a xs := by
  rcases h with (h | ⟨o, h⟩) | h
  · exact .inl (.inl (e _ _ h))
  · exact .inl (.inr ⟨o, e _ _ h⟩)
  · exact .inr h
/-- a pen at p -/
def PenAt (H : Hp) (p : Addr) : Prop := ∃ a b c : Int, H p = some (.lst [.int a, .int b, .int c]) ∧ 0 ≤ b ∧ b < 2147483648
theorem PenAt.same {H H' : Hp} {p : Addr} (h : PenAt H p) (e : Same H H') : PenAt H' p := by
  obtain ⟨a, b, c, h1, h2⟩ := h
  exact ⟨a, b, c, e _ _ h1, h2⟩
theorem PenAt.tup {K : PySem.W.Frag} {p : Addr} {H H' : Hp} {a : Addr} {xs : List V} (h : PenAt H p) (e : But p H H') (q : SqT K H a xs) : SqT K H' a xs := by
  obtain ⟨_, _, _, h1, _⟩ := h
  exact e.tup h1 q
theorem PenAt.free {p q : Addr} {H H' : Hp} (h : PenAt H p) (h' : PenAt H' p) (e : But p H H') (n : H' q = none) : H q = none := by
  obtain ⟨_, _, _, h1, _⟩ := h
  obtain ⟨_, _, _, h2, _⟩ := h'
  exact e.free h1 ⟨_, h2⟩ n
theorem atI0 {x : V} {r : List V} : atI (x :: r) 0 = some x := atI_nat (j := 0) rfl
theorem atI1 {x y : V} {r : List V} : atI (x :: y :: r) 1 = some y := atI_nat (j := 1) rfl
theorem atI2 {x y z : V} {r : List V} : atI (x :: y :: z :: r) 2 = some z := atI_nat (j := 2) rfl

section
variable {P : Program} {w : World} {K : PySem.W.Frag} {mg : Str → Option Value} {base : Heap}
/-! ### is_int, is_between: of ints -/
def spIsInt : Sp := fun vs H Q _ => ∃ i : Int, vs = [.int i] ∧ Q (.bl true) H
theorem ok_is_int {f : Addr} {fd : FuncData} {k : Nat} (F : Fun K "is_int" "is_int" s_is_int f fd) (m1 : mg "isinstance" = none) (m2 : mg "int" = none) (m3 : mg "bool" = none) :
    FnOk P w K mg base CX0 (k + 1) f fd ["thing"] spIsInt := by
  refine F.ok sc_is_int (fun vs H Q E h => ?_) (fun cdv A outer s H vs Q E hr h => ?_)
  · obtain ⟨i, rfl, _⟩ := h; rfl
  · obtain ⟨i, rfl, q⟩ := h
    refine ⟨_, pss_one (ps_ret (pe_and
      (pe_callB call_isi (by rfl) m1 (by decide +kernel) (pa_cons (pv 0) (pa_cons (pe_bltn (v := .ty "int") (by rfl) m2 (by decide +kernel) rfl) pa_nil)))
      (pe_one (pe_not (pe_callB call_isi (by rfl) m1 (by decide +kernel) (pa_cons (pv 0) (pa_cons (pe_bltn (v := .ty "bool") (by rfl) m3 (by decide +kernel) rfl) pa_nil))))))), ?_⟩
    refine ⟨.int i, rfl, .int i, .ty "int", _, _, true, rfl, .ty _, .base (.int i), kit_ty (by decide +kernel), true, rfl, iteT ?_⟩
    exact ⟨.int i, rfl, .int i, .ty "bool", _, _, false, rfl, .ty _, .base (.int i), kit_ty (by decide +kernel), false, rfl, q⟩
def spIsBetween : Sp := fun vs H Q _ => ∃ i l m : Int, vs = [.int i, .int l, .int m] ∧ Q (.bl (decide (l ≤ i) && decide (i ≤ m))) H
theorem ok_is_between {f f1 : Addr} {fd fd1 : FuncData} {k : Nat} (F : Fun K "is_between" "is_between" s_is_between f fd)
    (G1 : FnOk P w K mg base CX0 k f1 fd1 ["thing"] spIsInt) (kp1 : PySem.W.keepIn K (.ref f1) = true) (b1 : Binds K fd1 ["thing"] []) (g1 : mg "is_int" = some (.ref f1)) :
    FnOk P w K mg base CX0 (k + 1) f fd ["thing", "least", "most"] spIsBetween := by
  refine F.ok sc_is_between (fun vs H Q E h => ?_) (fun cdv A outer s H vs Q E hr h => ?_)
  · obtain ⟨i, l, m, rfl, _⟩ := h; rfl
  · obtain ⟨i, l, m, rfl, q⟩ := h
    refine ⟨_, pss_one (ps_ret (pe_and (pe_call G1 hr (by rfl) g1 kp1 b1 .nil pass0 (pa_cons (pv 0) pa_nil)) (pe_one (pe_chain op_le op_le (pv 1) (pv 0) (pv 2))))), ?_⟩
    refine ⟨.int i, rfl, i, rfl, true, rfl, iteT ?_⟩
    refine ⟨.int l, rfl, .int i, rfl, l, i, rfl, rfl, decide (l ≤ i), rfl, ?_⟩
    by_cases h1 : l ≤ i
    · rw [decide_eq_true h1] at q ⊢
      exact iteT ⟨.int m, rfl, i, m, rfl, rfl, q⟩
    · rw [decide_eq_false h1] at q ⊢
      exact iteF q
/-! ### the script's cells, the pen -/
def spCell (K : PySem.W.Frag) : Sp := fun vs H Q _ => ∃ (a : Addr) (ns : List Int) (k : Nat), vs = [.ref a, .int k] ∧ SqL K H a (ns.map V.int) ∧ ∀ r : Int, Q (.int r) H
theorem ok_l_cell {f : Addr} {fd : FuncData} {k : Nat} (F : Fun K "_law_cell" "_law_cell" s_l_cell f fd) (m1 : mg "len" = none) :
    FnOk P w K mg base CX0 (k + 1) f fd ["_law_script", "_law_k"] (spCell K) := by
  refine F.ok sc_l_cell (fun vs H Q E h => ?_) (fun cdv A outer s H vs Q E hr h => ?_)
  · obtain ⟨a, ns, j, rfl, _⟩ := h; rfl
  · obtain ⟨a, ns, j, rfl, hS, q⟩ := h
    refine ⟨_, pss_one (ps_ret (pe_ifExp (pt_cmpR op_lt (pv 1) (pe_callB call_len_seq (by rfl) m1 PySem.boot_len (pa_cons (pv 0) pa_nil)) (nomark _))
      (pe_ix ix_list (pv 0) (pv 1) (fun _ _ => rfl)) pe_int)), ?_⟩
    refine ⟨.int j, rfl, .ref a, rfl, a, ns.map V.int, rfl, .inl hS, _, _, rfl, rfl, _, rfl, ite2 (fun e => ?_) (fun e => ?_)⟩
    · have e1 : (j : Int) < ((ns.map V.int).length : Nat) := of_decide_eq_true e
      have e2 : j < ns.length := by rw [List.length_map] at e1; omega
      refine ⟨.ref a, rfl, .int j, rfl, a, ns.map V.int, (j : Int), .int ns[j], rfl, rfl, hS, atI_nat ?_, q _⟩
      rw [List.getElem?_map, List.getElem?_eq_getElem e2]; rfl
    · exact q 0
def spPen : Sp := fun vs H Q _ => ∃ c : Int, vs = [.int c] ∧ ∀ H' p, H p = none → Same H H' → PenAt H' p → Q (.ref p) H'
theorem ok_l_pen {f : Addr} {fd : FuncData} {k : Nat} (F : Fun K "_law_pen" "_law_pen" s_l_pen f fd) (m1 : mg "max" = none) :
    FnOk P w K mg base CX0 (k + 1) f fd ["_law_cell_here"] spPen := by
  refine F.ok sc_l_pen (fun vs H Q E h => ?_) (fun cdv A outer s H vs Q E hr h => ?_)
  · obtain ⟨c, rfl, _⟩ := h; rfl
  · obtain ⟨c, rfl, q⟩ := h
    refine ⟨_, pss_one (ps_ret (pe_lst (pa_cons (pe_callB (call_max2 rfl) (by rfl) m1 (by decide +kernel) (pa_cons pe_int (pa_cons (pe_op op_sub (pv 0) (pe_op op_pow pe_int pe_int)) pa_nil)))
      (pa_cons (pe_op op_add (pe_op op_mod (pv 0) pe_int) pe_int) (pa_cons pe_int pa_nil))))), ?_⟩
    refine ⟨.int c, rfl, 10, 18, rfl, rfl, (by show (0 : Int) ≤ 18 ∧ (18 : Int) ≤ 1000000 ∧ _; decide), c, _, rfl, rfl, _, _, rfl, ?_⟩
    refine ⟨.int c, rfl, c, 2147483629, rfl, rfl, (by show (0 : Int) < 2147483629; decide), _, _, rfl, rfl, ?_⟩
    refine ⟨by show 3 ≤ sizeLine; decide, fun p hp => q _ p hp (same_new hp) ⟨_, _, _, upd_same, ?_⟩⟩
    have h1 := Int.emod_nonneg c (show (2147483629 : Int) ≠ 0 by decide)
    have h2 := Int.emod_lt_of_pos c (show (0 : Int) < 2147483629 by decide)
    constructor <;> omega
/-! ### a draw -/
def spDraw : Sp := fun vs H Q _ => ∃ (p : Addr) (m : Int), vs = [.ref p, .int m] ∧ PenAt H p ∧ 0 < m ∧ m < 1000000 ∧
  ∀ H' (r : Int), 0 ≤ r → r < m → PenAt H' p → But p H H' → Q (.int r) H'
theorem ok_l_draw {f : Addr} {fd : FuncData} {k : Nat} (F : Fun K "_law_draw" "_law_draw" s_l_draw f fd) :
    FnOk P w K mg base CX0 (k + 1) f fd ["_law_pen_here", "_law_many"] spDraw := by
  refine F.ok sc_l_draw (fun vs H Q E h => ?_) (fun cdv A outer s H vs Q E hr h => ?_)
  · obtain ⟨p, m, rfl, _⟩ := h; rfl
  · obtain ⟨p, m, rfl, ⟨a, b, c, hp, hb0, hb1⟩, hm0, hm1, q⟩ := h
    refine ⟨_, pss_cons (ps_if (pt_cmpR op_gt (pe_ix ix_list (pv 0) pe_int (fun _ _ => rfl)) pe_int (nomark _))
        (pss_cons (ps_set (i := 2) sc_l_draw.nd rfl (.inl rfl) (pe_op op_mod (pe_ix ix_list (pv 0) pe_int (fun _ _ => rfl)) (pv 1)))
        (pss_cons (ps_asg (pe_op op_fdiv (pe_ix ix_list (pv 0) pe_int (fun _ _ => rfl)) (pv 1)) (pg_sub (pv 0) pe_int set_list))
        (pss_one (ps_ret (pv 2))))) pss_nil)
      (pss_cons (ps_asg (pe_op op_add (pe_ix ix_list (pv 0) pe_int (fun _ _ => rfl)) pe_int) (pg_sub (pv 0) pe_int set_list))
      (pss_cons (ps_asg (pe_op op_mod (pe_op op_add (pe_op op_add (pe_op op_mul (pe_ix ix_list (pv 0) pe_int (fun _ _ => rfl)) pe_int)
            (pe_op op_mul pe_int (pe_ix ix_list (pv 0) pe_int (fun _ _ => rfl)))) pe_int) pe_int) (pg_sub (pv 0) pe_int set_list))
      (pss_cons (ps_set (i := 3) sc_l_draw.nd rfl (.inl rfl) (pe_op op_mod (pe_op op_add (pe_op op_add (pe_op op_mul (pe_ix ix_list (pv 0) pe_int (fun _ _ => rfl)) (pe_ix ix_list (pv 0) pe_int (fun _ _ => rfl)))
            (pe_op op_mul pe_int (pe_ix ix_list (pv 0) pe_int (fun _ _ => rfl)))) pe_int) pe_int))
      (pss_cons (ps_set (i := 3) sc_l_draw.nd rfl (.inl rfl) (pe_op op_mod (pe_op op_add (pe_op op_mul (pv 3) (pv 3)) (pe_op op_mul pe_int (pv 3))) pe_int))
      (pss_one (ps_ret (pe_op op_mod (pe_op op_fdiv (pv 3) pe_int) (pv 1)))))))), ?_⟩
    refine ⟨.ref p, rfl, p, _, 0, .int a, rfl, rfl, .of hp, atI0, a, 0, rfl, rfl, _, rfl, ite2 (fun e => ?_) (fun e => ?_)⟩
    · have ha : 0 < a := of_decide_eq_true e
      refine ⟨.ref p, rfl, p, _, 0, .int a, rfl, rfl, .of hp, atI0, .int m, rfl, a, m, rfl, rfl, hm0, ?_⟩
      refine ⟨.ref p, rfl, p, _, 0, .int a, rfl, rfl, .of hp, atI0, .int m, rfl, a, m, rfl, rfl, ⟨hm0, (by omega)⟩, ?_⟩
      refine ⟨.ref p, rfl, p, _, 0, 0, rfl, rfl, hp, rfl, ?_⟩
      refine ⟨.int (a % m), rfl, q _ _ (Int.emod_nonneg a (by omega)) (Int.emod_lt_of_pos a hm0) ⟨a / m, b, c, upd_same, hb0, hb1⟩ But.upd⟩
    · refine ⟨.ref p, rfl, p, _, 2, .int c, rfl, rfl, .of hp, atI2, c, 1, rfl, rfl, ?_⟩
      refine ⟨.ref p, rfl, p, _, 2, 2, rfl, rfl, hp, rfl, ?_⟩
      have hp1 : (upd H p (.lst [.int a, .int b, .int (c + 1)])) p = some (.lst [.int a, .int b, .int (c + 1)]) := upd_same
      refine ⟨.ref p, rfl, p, _, 1, .int b, rfl, rfl, .of hp1, atI1, b, 48271, rfl, rfl, .inl ⟨by omega, by omega⟩, ?_⟩
      refine ⟨.ref p, rfl, p, _, 2, .int (c + 1), rfl, rfl, .of hp1, atI2, 1009, c + 1, rfl, rfl, .inl (by decide), ?_⟩
      refine ⟨_, _, rfl, rfl, _, _, rfl, rfl, _, 2147483647, rfl, rfl, (by show (0 : Int) < 2147483647; decide), ?_⟩
      refine ⟨.ref p, rfl, p, _, 1, 1, rfl, rfl, hp1, rfl, ?_⟩
      dsimp only [List.set]
      generalize hb' : (b * 48271 + 1009 * (c + 1) + 7) % 2147483647 = b'
      have g1 : 0 ≤ b' := by rw [← hb']; exact Int.emod_nonneg _ (by decide)
      have g2 : b' < 2147483647 := by rw [← hb']; exact Int.emod_lt_of_pos _ (by decide)
      have hp2 : (upd (upd H p (.lst [.int a, .int b, .int (c + 1)])) p (.lst [.int a, .int b', .int (c + 1)])) p = some (.lst [.int a, .int b', .int (c + 1)]) := upd_same
      refine ⟨.ref p, rfl, p, _, 1, .int b', rfl, rfl, .of hp2, atI1, .ref p, rfl, p, _, 1, .int b', rfl, rfl, .of hp2, atI1, b', b', rfl, rfl, .inl ⟨by omega, by omega⟩, ?_⟩
      refine ⟨.ref p, rfl, p, _, 1, .int b', rfl, rfl, .of hp2, atI1, 69621, b', rfl, rfl, .inl (by decide), ?_⟩
      refine ⟨_, _, rfl, rfl, _, _, rfl, rfl, _, 2147483629, rfl, rfl, (by show (0 : Int) < 2147483629; decide), ?_⟩
      dsimp only
      generalize ht : (b' * b' + 69621 * b' + 11) % 2147483629 = t
      have t1 : 0 ≤ t := by rw [← ht]; exact Int.emod_nonneg _ (by decide)
      have t2 : t < 2147483629 := by rw [← ht]; exact Int.emod_lt_of_pos _ (by decide)
      refine ⟨.int t, rfl, .int t, rfl, t, t, rfl, rfl, .inl ⟨by omega, by omega⟩, .int t, rfl, 40014, t, rfl, rfl, .inl (by decide), _, _, rfl, rfl, _, 2147483587, rfl, rfl, (by show (0 : Int) < 2147483587; decide), ?_⟩
      refine ⟨_, rfl, _, 16, rfl, rfl, ⟨by decide, by decide⟩, .int m, rfl, _, m, rfl, rfl, hm0, ?_⟩
      refine q _ _ (Int.emod_nonneg _ (by omega)) (Int.emod_lt_of_pos _ hm0) ⟨a, b', c + 1, upd_same, by omega, by omega⟩ ?_
      exact But.upd.trans But.upd
/-! ### an item, or -1 -/
def atD (ns : List Int) (t : Int) : Int := if 0 ≤ t ∧ t < ns.length then ns.getD t.toNat 0 else -1
def spAt (K : PySem.W.Frag) : Sp := fun vs H Q _ => ∃ (a : Addr) (ns : List Int) (t : Int), vs = [.ref a, .int t] ∧ SqT K H a (ns.map V.int) ∧ Q (.int (atD ns t)) H
end
end Sg

set_option Elab.async false
set_option linter.all false
set_option maxRecDepth 100000
set_option maxHeartbeats 4000000
namespace Sg
open PySem PySem.Spec PyProof.Rows L2
/-! ## the mathematics of bars -/
/-- a work, as its items -/
structure IsWork (ns : List Int) : Prop where
  pos : 1 ≤ ns.length
  most : ns.length ≤ 60
  items : ∀ x ∈ ns, -1 ≤ x ∧ x ≤ 9
  head : ∀ x, ns[0]? = some x → x ≠ -1
  last : ∀ x, ns[ns.length - 1]? = some x → x ≠ -1
/-- a piece of other, d ticks behind one of one, clashes with it -/
def clashB (one other : List Int) (d : Nat) : Bool := ((one.drop d).zip other).any fun p => p.1 == p.2 && p.1 != -1
def barsN (one other : List Int) : List Nat := (List.range' 1 (one.length - 1)).filter (clashB one other)
/-- as the law looks: tick by tick of the first piece -/
def lawHit (one other : List Int) (d : Nat) (i : Nat) : Bool := match one[i]? with
  | some x => decide (x > -1) && decide (atD other ((i : Int) - d) = x)
  | none => false
def lawCount (one other : List Int) (d : Nat) (n : Nat) : Nat := ((List.range n).filter (lawHit one other d)).length
theorem lawCount_zero {one other : List Int} {d : Nat} : lawCount one other d 0 = 0 := rfl
theorem lawCount_succ {one other : List Int} {d n : Nat} : lawCount one other d (n + 1) = lawCount one other d n + (if lawHit one other d n = true then 1 else 0) := by
  unfold lawCount
  rw [List.range_succ, List.filter_append, List.length_append]
  congr 1
  by_cases h : lawHit one other d n = true
  · rw [if_pos h, List.filter_cons_of_pos h]; rfl
  · rw [if_neg h, List.filter_cons_of_neg h]; rfl
theorem atD_in {ns : List Int} {j : Nat} {x : Int} (h : ns[j]? = some x) : atD ns (j : Int) = x := by
  have hl := (List.getElem?_eq_some_iff.mp h).1
  unfold atD
  rw [if_pos ⟨by omega, by omega⟩, Int.toNat_natCast, List.getD_eq_getElem?_getD, h]; rfl
theorem atD_cases (ns : List Int) (t : Int) : (∃ j : Nat, t = j ∧ ns[j]? = some (atD ns t)) ∨ atD ns t = -1 := by
  by_cases h : 0 ≤ t ∧ t < ns.length
  · obtain ⟨j, rfl⟩ : ∃ j : Nat, t = j := ⟨t.toNat, by omega⟩
    have hj : j < ns.length := by omega
    exact .inl ⟨j, rfl, by rw [atD_in (List.getElem?_eq_getElem hj), List.getElem?_eq_getElem hj]⟩
  · refine .inr ?_
    unfold atD
    rw [if_neg h]
theorem clashB_iff {one other : List Int} {d : Nat} : clashB one other d = true ↔ ∃ j x, one[d + j]? = some x ∧ other[j]? = some x ∧ x ≠ -1 := by
  unfold clashB
  rw [List.any_eq_true]
  constructor
  · rintro ⟨⟨x, y⟩, hm, h⟩
    obtain ⟨j, hj⟩ := List.mem_iff_getElem?.mp hm
    obtain ⟨h1, h2⟩ := List.getElem?_zip_eq_some.mp hj
    simp only [Bool.and_eq_true, beq_iff_eq, bne_iff_ne, ne_eq] at h
    rw [List.getElem?_drop] at h1
    exact ⟨j, x, h1, h.1 ▸ h2, h.2⟩
  · rintro ⟨j, x, h1, h2, h3⟩
    refine ⟨(x, x), List.mem_iff_getElem?.mpr ⟨j, List.getElem?_zip_eq_some.mpr ⟨by rw [List.getElem?_drop]; exact h1, h2⟩⟩, ?_⟩
    simp [h3]
theorem lawCount_iff {one other : List Int} {d : Nat} (hw : IsWork one) : decide (lawCount one other d one.length ≠ 0) = clashB one other d := by
  have key : lawCount one other d one.length ≠ 0 ↔ clashB one other d = true := by
    rw [clashB_iff]
    unfold lawCount
    rw [ne_eq, List.length_eq_zero_iff, List.filter_eq_nil_iff]
    constructor
    · intro h
      have h' : ∃ i ∈ List.range one.length, lawHit one other d i = true := by
        refine Classical.byContradiction fun z => h fun i hi hh => z ⟨i, hi, hh⟩
      obtain ⟨i, hi, hh⟩ := h'
      have hi' : i < one.length := List.mem_range.mp hi
      unfold lawHit at hh
      rw [List.getElem?_eq_getElem hi'] at hh
      simp only [Bool.and_eq_true, decide_eq_true_eq] at hh
      rcases atD_cases other ((i : Int) - d) with ⟨j, ej, hj⟩ | e
      · refine ⟨j, one[i], ?_, ?_, by omega⟩
        · rw [show d + j = i by omega]; exact List.getElem?_eq_getElem hi'
        · rw [hj, hh.2]
      · omega
    · rintro ⟨j, x, h1, h2, h3⟩ z
      have hl := (List.getElem?_eq_some_iff.mp h1).1
      refine z (d + j) (List.mem_range.mpr hl) ?_
      unfold lawHit
      rw [h1]
      have hm : x ∈ one := List.mem_of_getElem? h1
      have := (hw.items x hm).1
      simp only [Bool.and_eq_true, decide_eq_true_eq]
      refine ⟨by omega, ?_⟩
      rw [show (((d + j : Nat) : Int) - d) = (j : Int) by omega]
      exact atD_in h2
  by_cases h : clashB one other d = true
  · rw [h]; exact decide_eq_true (key.mpr h)
  · rw [Bool.eq_false_iff.mpr h]
    exact decide_eq_false fun z => h (key.mp z)
/-! ### lists step by step -/
theorem filter_range'_succ (f : Nat → Bool) (a n : Nat) : (List.range' a (n + 1)).filter f = (List.range' a n).filter f ++ (if f (a + n) = true then [a + n] else []) := by
  rw [List.range'_concat, List.filter_append, Nat.one_mul]
  congr 1
  by_cases h : f (a + n) = true
  · rw [if_pos h, List.filter_cons_of_pos h]; rfl
  · rw [if_neg h, List.filter_cons_of_neg h]; rfl
/-- the bars found below 1 + n -/
def barsTo (one other : List Int) (n : Nat) : List Nat := (List.range' 1 n).filter (clashB one other)
theorem barsTo_len (one other : List Int) (n : Nat) : (barsTo one other n).length ≤ n := by
  unfold barsTo
  refine Nat.le_trans (List.length_filter_le _ _) ?_
  rw [List.length_range']
  exact Nat.le_refl _
abbrev nV (l : List Nat) : List V := l.map fun d => V.int (d : Nat)
theorem barsTo_yes {one other : List Int} {n : Nat} (h : clashB one other (1 + n) = true) : nV (barsTo one other (n + 1)) = nV (barsTo one other n) ++ [.int ((1 : Int) + n)] := by
  unfold nV barsTo
  rw [filter_range'_succ, if_pos h, List.map_append]
  have e : (((1 + n : Nat) : Int)) = (1 : Int) + n := by omega
  simp only [List.map_cons, List.map_nil, e]
theorem barsTo_no {one other : List Int} {n : Nat} (h : clashB one other (1 + n) = false) : barsTo one other (n + 1) = barsTo one other n := by
  unfold barsTo
  rw [filter_range'_succ, if_neg (by rw [h]; exact Bool.false_ne_true), List.append_nil]
/-- the pairs of a zip, looked at in turn -/
def hitsTo (one other : List Int) (d n : Nat) : List Bool := (((one.drop d).zip other).take n).map fun p => p.1 == p.2 && p.1 != -1
theorem hits_any (one other : List Int) (d : Nat) : (hitsTo one other d (min (one.drop d).length other.length)).any id = clashB one other d := by
  unfold hitsTo clashB
  rw [List.take_of_length_le (by rw [List.length_zip]; exact Nat.le_refl _), List.any_map]
  rfl
theorem hits_succ {one other : List Int} {d n : Nat} {x y : Int} (h1 : (one.drop d)[n]? = some x) (h2 : other[n]? = some y) : hitsTo one other d (n + 1) = hitsTo one other d n ++ [x == y && x != -1] := by
  unfold hitsTo
  rw [List.take_add_one, List.getElem?_zip_eq_some (z := (x, y)) |>.mpr ⟨h1, h2⟩, List.map_append]
  rfl
theorem hits_len (one other : List Int) (d n : Nat) : (hitsTo one other d n).length ≤ n := by
  unfold hitsTo
  rw [List.length_map, List.length_take]
  exact Nat.min_le_left _ _
end Sg

set_option Elab.async false
set_option linter.all false
set_option maxRecDepth 100000
set_option maxHeartbeats 4000000
namespace Sg
open PySem PySem.Spec PyProof.Rows L2
/-! ## who is where: a dict from spots to lists of pieces -/
abbrev Spot := Int × Int
def keyS (p : Spot) : List L2.Key := [.inl p.1, .inl p.2]
theorem keyS_inj {p q : Spot} (h : keyS p = keyS q) : p = q := by
  obtain ⟨a, b⟩ := p
  obtain ⟨c, d⟩ := q
  unfold keyS at h
  injection h with h1 h2
  injection h2 with h2 _
  injection h1 with h1
  injection h2 with h2
  simp only at h1 h2
  rw [h1, h2]
/-- a spot, its list's place, its pieces -/
abbrev Grp := Spot × Addr × List Nat
def iV (ns : List Nat) : List V := ns.map fun n => V.int (n : Nat)
def entS (g : Grp) : List L2.Key × V := (keyS g.1, V.ref g.2.1)
abbrev Ev := Spot × Nat
def who (E : List Ev) (p : Spot) : List Nat := (E.filter fun e => decide (e.1 = p)).map (·.2)
theorem who_snoc (E : List Ev) (p q : Spot) (i : Nat) : who (E ++ [(q, i)]) p = who E p ++ (if q = p then [i] else []) := by
  unfold who
  rw [List.filter_append, List.map_append]
  congr 1
  by_cases h : q = p
  · simp [h]
  · simp [h]
/-- the spots, by their first time -/
def firsts (E : List Ev) : List Spot := E.foldl (fun acc e => if e.1 ∈ acc then acc else acc ++ [e.1]) []
theorem firsts_snoc (E : List Ev) (e : Ev) : firsts (E ++ [e]) = if e.1 ∈ firsts E then firsts E else firsts E ++ [e.1] := by
  unfold firsts
  rw [List.foldl_append]
  rfl
structure VisG (gs : List Grp) (E : List Ev) : Prop where
  ord : gs.map (·.1) = firsts E
  told : ∀ g ∈ gs, g.2.2 = who E g.1
  full : ∀ e ∈ E, ∃ g ∈ gs, g.1 = e.1
  keys : (gs.map (·.1)).Nodup
  few : gs.length ≤ E.length
structure VisAt (H0 H : Hp) (d : Addr) (gs : List Grp) : Prop where
  at_ : H d = some (.dT (gs.map entS))
  lists : ∀ g ∈ gs, H g.2.1 = some (.lst (iV g.2.2))
  apart : (gs.map (·.2.1)).Nodup
  fresh : H0 d = none ∧ ∀ g ∈ gs, H0 g.2.1 = none
  old : Same H0 H
theorem who_len (E : List Ev) (p : Spot) : (who E p).length ≤ E.length := by
  unfold who
  rw [List.length_map]
  exact List.length_filter_le _ _
/-! ### a spot is there, or not -/
theorem val_ent (p : Spot) : ∀ gs : List Grp, (∀ v, valV (gs.map entS) (keyS p) = some v → ∃ g ∈ gs, g.1 = p ∧ v = .ref g.2.1) ∧ (valV (gs.map entS) (keyS p) = none → ∀ g ∈ gs, g.1 ≠ p)
  | [] => ⟨fun v h => (nomatch h), fun _ g h => (nomatch h)⟩
  | g :: r => by
    obtain ⟨i1, i2⟩ := val_ent p r
    by_cases h : g.1 = p
    · have e : valV ((g :: r).map entS) (keyS p) = some (.ref g.2.1) := by
        rw [List.map_cons]
        exact valV_pos (by unfold entS; rw [h])
      refine ⟨fun v hv => ?_, fun hn => ?_⟩
      · rw [e] at hv
        exact ⟨g, List.mem_cons_self, h, (Option.some.inj hv).symm⟩
      · rw [e] at hn
        exact nomatch hn
    · have e : valV ((g :: r).map entS) (keyS p) = valV (r.map entS) (keyS p) := by
        rw [List.map_cons]
        exact valV_neg (fun z => h (keyS_inj z))
      rw [e]
      refine ⟨fun v hv => ?_, fun hn x hx => ?_⟩
      · obtain ⟨y, hy, q⟩ := i1 v hv
        exact ⟨y, List.mem_cons_of_mem _ hy, q⟩
      · rcases List.mem_cons.mp hx with rfl | hx
        · exact h
        · exact i2 hn x hx
/-- the piece comes to a list that is there -/
def more (gs : List Grp) (p : Spot) (i : Nat) : List Grp := gs.map fun g => if g.1 = p then (g.1, g.2.1, g.2.2 ++ [i]) else g
theorem more_ent (gs : List Grp) (p : Spot) (i : Nat) : (more gs p i).map entS = gs.map entS := by
  unfold more
  rw [List.map_map]
  refine List.map_congr_left fun g _ => ?_
  show entS (if g.1 = p then _ else g) = entS g
  split <;> rfl
theorem more_fst (gs : List Grp) (p : Spot) (i : Nat) : (more gs p i).map (·.1) = gs.map (·.1) := by
  unfold more
  rw [List.map_map]
  refine List.map_congr_left fun g _ => ?_
  show (if g.1 = p then (g.1, g.2.1, g.2.2 ++ [i]) else g).1 = g.1
  split <;> rfl
theorem more_snd (gs : List Grp) (p : Spot) (i : Nat) : (more gs p i).map (·.2.1) = gs.map (·.2.1) := by
  unfold more
  rw [List.map_map]
  refine List.map_congr_left fun g _ => ?_
  show (if g.1 = p then (g.1, g.2.1, g.2.2 ++ [i]) else g).2.1 = g.2.1
  split <;> rfl
theorem VisG.more {gs : List Grp} {E : List Ev} (h : VisG gs E) {g : Grp} (hg : g ∈ gs) (i : Nat) : VisG (more gs g.1 i) (E ++ [(g.1, i)]) := by
  refine ⟨?_, fun x hx => ?_, fun e he => ?_, by rw [more_fst]; exact h.keys, ?_⟩
  · rw [more_fst, h.ord, firsts_snoc, if_pos]
    rw [← h.ord]
    exact List.mem_map.mpr ⟨g, hg, rfl⟩
  · obtain ⟨y, hy, rfl⟩ := List.mem_map.mp hx
    rw [who_snoc]
    by_cases q : y.1 = g.1
    · rw [if_pos q]
      show y.2.2 ++ [i] = who E y.1 ++ _
      rw [if_pos q.symm, h.told y hy]
    · rw [if_neg q, if_neg (fun z => q z.symm), List.append_nil]
      exact h.told y hy
  · have key : ∀ y ∈ gs, ∃ x ∈ Sg.more gs g.1 i, x.1 = y.1 := fun y hy => by
      refine ⟨_, List.mem_map.mpr ⟨y, hy, rfl⟩, ?_⟩
      show (if y.1 = g.1 then (y.1, y.2.1, y.2.2 ++ [i]) else y).1 = y.1
      split <;> rfl
    rcases List.mem_append.mp he with he | he
    · obtain ⟨y, hy, e1⟩ := h.full e he
      obtain ⟨x, hx, e2⟩ := key y hy
      exact ⟨x, hx, e2.trans e1⟩
    · rcases List.mem_singleton.mp he with rfl
      exact key g hg
  · unfold Sg.more
    rw [List.length_map, List.length_append]
    have := h.few
    omega
theorem VisG.new {gs : List Grp} {E : List Ev} (h : VisG gs E) {p : Spot} (hp : ∀ g ∈ gs, g.1 ≠ p) (l : Addr) (i : Nat) : VisG (gs ++ [(p, l, [i])]) (E ++ [(p, i)]) := by
  refine ⟨?_, fun x hx => ?_, fun e he => ?_, ?_, ?_⟩
  · rw [List.map_append, h.ord, firsts_snoc, if_neg]
    · rfl
    · rw [← h.ord]
      intro z
      obtain ⟨g, hg, e⟩ := List.mem_map.mp z
      exact hp g hg e
  · rw [who_snoc]
    rcases List.mem_append.mp hx with hx | hx
    · rw [if_neg (fun z => hp x hx z.symm), List.append_nil]
      exact h.told x hx
    · rcases List.mem_singleton.mp hx with rfl
      have : who E p = [] := by
        unfold who
        rw [List.filter_eq_nil_iff.mpr]
        · rfl
        · intro e he z
          obtain ⟨g, hg, q⟩ := h.full e he
          exact hp g hg (q.trans (of_decide_eq_true z))
      show [i] = who E p ++ (if p = p then [i] else [])
      rw [this, if_pos rfl]
      rfl
  · rcases List.mem_append.mp he with he | he
    · obtain ⟨y, hy, q⟩ := h.full e he
      exact ⟨y, List.mem_append_left _ hy, q⟩
    · rcases List.mem_singleton.mp he with rfl
      exact ⟨_, List.mem_append_right _ (List.mem_singleton.mpr rfl), rfl⟩
  · rw [List.map_append]
    refine List.nodup_append.mpr ⟨h.keys, by simp, fun a ha b hb => ?_⟩
    obtain ⟨g, hg, rfl⟩ := List.mem_map.mp ha
    rcases List.mem_singleton.mp hb with rfl
    exact hp g hg
  · rw [List.length_append, List.length_append]
    exact Nat.add_le_add_right h.few _
/-! ### the heap -/
theorem nodup_at {α β : Type} {f : α → β} : ∀ {l : List α}, (l.map f).Nodup → ∀ {x y : α}, x ∈ l → y ∈ l → f x = f y → x = y
  | [], _, _, _, hx, _, _ => nomatch hx
  | a :: r, h, x, y, hx, hy, e => by
    rw [List.map_cons] at h
    obtain ⟨h1, h2⟩ := List.nodup_cons.mp h
    rcases List.mem_cons.mp hx with ex | hx2 <;> rcases List.mem_cons.mp hy with ey | hy2
    · rw [ex, ey]
    · exact (h1 (List.mem_map.mpr ⟨y, hy2, by rw [← ex]; exact e.symm⟩)).elim
    · exact (h1 (List.mem_map.mpr ⟨x, hx2, by rw [← ey]; exact e⟩)).elim
    · exact nodup_at h2 hx2 hy2 e
theorem VisAt.same {H0 H H' : Hp} {d : Addr} {gs : List Grp} (h : VisAt H0 H d gs) (e : Same H H') : VisAt H0 H' d gs :=
  ⟨e _ _ h.at_, fun g hg => e _ _ (h.lists g hg), h.apart, h.fresh, h.old.trans e⟩
theorem VisAt.more {H0 H : Hp} {d : Addr} {gs : List Grp} (h : VisAt H0 H d gs) (hk : (gs.map (·.1)).Nodup) {g : Grp} (hg : g ∈ gs) (i : Nat) :
    VisAt H0 (upd H g.2.1 (.lst (iV g.2.2 ++ [.int (i : Nat)]))) d (more gs g.1 i) := by
  have hd : d ≠ g.2.1 := ne_of h.at_ (h.lists g hg) (fun z => nomatch z)
  refine ⟨?_, fun x hx => ?_, by rw [more_snd]; exact h.apart, ⟨h.fresh.1, fun x hx => ?_⟩, fun b o e => ?_⟩
  · rw [upd_ne hd, more_ent]
    exact h.at_
  · obtain ⟨y, hy, rfl⟩ := List.mem_map.mp hx
    by_cases q : y.1 = g.1
    · obtain rfl := nodup_at hk hy hg q
      rw [if_pos rfl]
      show (upd H y.2.1 _) y.2.1 = _
      rw [upd_same]
      unfold iV
      rw [List.map_append]
      rfl
    · rw [if_neg q, upd_ne (fun z => q (by rw [nodup_at h.apart hy hg z]))]
      exact h.lists y hy
  · obtain ⟨y, hy, rfl⟩ := List.mem_map.mp hx
    have : (if y.1 = g.1 then (y.1, y.2.1, y.2.2 ++ [i]) else y).2.1 = y.2.1 := by split <;> rfl
    rw [this]
    exact h.fresh.2 y hy
  · rw [upd_ne (ne_of_none e (h.fresh.2 g hg))]
    exact h.old b o e
theorem VisAt.new {H0 H : Hp} {d l : Addr} {gs : List Grp} {p : Spot} {u : HO} (h : VisAt H0 H d gs) (hl : H l = some u) (hl0 : H0 l = none) (hdl : d ≠ l) (hgl : ∀ g ∈ gs, g.2.1 ≠ l) (i : Nat) :
    VisAt H0 (upd (upd H d (.dT (gs.map entS ++ [(keyS p, .ref l)]))) l (.lst [.int (i : Nat)])) d (gs ++ [(p, l, [i])]) := by
  refine ⟨?_, fun x hx => ?_, ?_, ⟨h.fresh.1, fun x hx => ?_⟩, fun b o e => ?_⟩
  · rw [upd_ne hdl, upd_same, List.map_append]
    rfl
  · rcases List.mem_append.mp hx with hx | hx
    · rw [upd_ne (hgl x hx), upd_ne (ne_of (h.lists x hx) h.at_ (fun z => nomatch z))]
      exact h.lists x hx
    · rcases List.mem_singleton.mp hx with rfl
      exact upd_same
  · rw [List.map_append]
    refine List.nodup_append.mpr ⟨h.apart, by simp, fun a ha b hb => ?_⟩
    obtain ⟨g, hg, rfl⟩ := List.mem_map.mp ha
    rcases List.mem_singleton.mp hb with rfl
    exact hgl g hg
  · rcases List.mem_append.mp hx with hx | hx
    · exact h.fresh.2 x hx
    · rcases List.mem_singleton.mp hx with rfl
      exact hl0
  · rw [upd_ne (ne_of_none e hl0), upd_ne (ne_of_none e h.fresh.1)]
    exact h.old b o e
end Sg

set_option Elab.async false
set_option linter.all false
set_option maxRecDepth 100000
set_option maxHeartbeats 4000000
namespace Sg
open PySem PySem.Spec PyProof.Rows L2
theorem walk_zipT {K : PySem.W.Frag} {a b : Addr} {xs ys : List V} {n : Nat} (hn : n = min xs.length ys.length) :
    Walk (RZ.ItzT K a b) n (fun H => SqT K H a xs ∧ SqT K H b ys) (YPair (fun i => xs[i]?) (fun i => ys[i]?)) := by
  subst hn
  constructor
  · intro i H hi q
    have h1 : i < xs.length := by omega
    have h2 : i < ys.length := by omega
    exact ⟨xs, ys, xs[i], ys[i], q.1, q.2, List.getElem?_eq_getElem h1, List.getElem?_eq_getElem h2⟩
  · intro H q
    exact ⟨xs, ys, q.1, q.2, by omega⟩
  · rintro i H v H' hi q ⟨T, x, z, h1, h2, h3, h4, h5⟩
    exact ⟨T, x, z, h1, h2, h3, h4 xs q.1, h5 ys q.2⟩
theorem walk_enumT {K : PySem.W.Frag} {a : Addr} {xs : List V} :
    Walk (ItE K a) xs.length (fun H => SqT K H a xs) (YPair (fun i => some (.int (i : Nat))) (fun i => xs[i]?)) := by
  constructor
  · intro i H hi q
    exact ⟨xs, xs[i], q, List.getElem?_eq_getElem hi⟩
  · intro H q
    exact ⟨xs, q, Nat.le_refl _⟩
  · rintro i H v H' hi q ⟨T, x, h1, h2, h3, h4⟩
    exact ⟨T, .int (i : Nat), x, h1, h2, h3, rfl, h4 xs q⟩
theorem cut_from (xs : List V) (d : Nat) : cutV xs (some (d : Int)) none = xs.drop d := by
  unfold cutV
  rw [HT.sIx_nat, HT.sIx_none]
  rcases Nat.le_total d xs.length with h | h
  · rw [Nat.min_eq_left h]
    exact List.take_of_length_le (by rw [List.length_drop]; exact Nat.le_refl _)
  · rw [Nat.min_eq_right h, List.drop_of_length_le (Nat.le_refl _), List.drop_of_length_le h]
    exact List.take_nil
section
variable {P : Program} {w : World} {K : PySem.W.Frag} {mg : Str → Option Value} {base : Heap}
theorem tyT {H : Hp} {a : Addr} {xs : List V} (h : SqT K H a xs) : TyX K H (.ref a) (.type "tuple") := by
  rcases h with (h | ⟨o, h⟩) | ⟨o, _, _, h, hc, _⟩
  · exact .base (.tup h)
  · exact .fTuple h
  · exact .kTuple h hc
/-- the module's numbers -/
structure Nums (mg : Str → Option Value) : Prop where
  nowhere : ∃ t, mg "NOWHERE" = some (.int (-1) t)
  stations : ∃ t, mg "STATIONS" = some (.int 10 t)
  most : ∃ t, mg "MOST_ITEMS" = some (.int 60 t)
def inR (x : Int) : Bool := decide (-1 ≤ x) && decide (x ≤ 9)
/-! ### is_work, of a work -/
def spIsWork (K : PySem.W.Frag) : Sp := fun vs H Q _ => ∃ (a : Addr) (ns : List Int), vs = [.ref a] ∧ SqT K H a (ns.map V.int) ∧ IsWork ns ∧ ∀ H', Same H H' → Q (.bl true) H'
theorem ok_is_work {f f1 : Addr} {fd fd1 : FuncData} {k : Nat} (F : Fun K "is_work" "is_work" s_is_work f fd) (N : Nums mg)
    (G1 : FnOk P w K mg base CX0 k f1 fd1 ["thing", "least", "most"] spIsBetween) (kp1 : PySem.W.keepIn K (.ref f1) = true) (b1 : Binds K fd1 ["thing", "least", "most"] []) (g1 : mg "is_between" = some (.ref f1))
    (m1 : mg "isinstance" = none) (m2 : mg "tuple" = none) (m3 : mg "len" = none) (m4 : mg "all" = none) :
    FnOk P w K mg base CX0 (k + 1) f fd ["thing"] (spIsWork K) := by
  obtain ⟨t1, n1⟩ := N.nowhere
  obtain ⟨t2, n2⟩ := N.stations
  obtain ⟨t3, n3⟩ := N.most
  refine F.ok sc_is_work (fun vs H Q E h => ?_) (fun cdv A outer s H vs Q E hr h => ?_)
  · obtain ⟨a, ns, rfl, _⟩ := h; rfl
  · obtain ⟨a, ns, rfl, hS, hw, q⟩ := h
    refine ⟨_, pss_cons (ps_if (PW.pt (pw_or (pt_not (pt_val (pe_callB call_isi (by rfl) m1 (by decide +kernel) (pa_cons (pv 0) (pa_cons (pe_bltn (v := .ty "tuple") (by rfl) m2 (by decide +kernel) rfl) pa_nil)))))
          (pw_or1 (pt_not (pt_chain op_le op_le pe_int (pe_callB call_len_seq (by rfl) m3 PySem.boot_len (pa_cons (pv 0) pa_nil)) (pe_glob (v := .int 60) (by rfl) n3 ⟨_, rfl⟩))))))
        (pss_one (ps_ret pe_bl)) pss_nil)
      (pss_cons (ps_if (pt_not (pt_val (pe_callB (cr_all rfl) (by rfl) m4 (by decide +kernel) (pa_cons
          (pe_lc (own := [("item", 1)]) (g := gName 1) (tt := tYes) rfl sc_is_work.nd (pi_tup (pv 0)) (blkOk_by (N := ["thing", "item"]) (sc := defScope s_is_work) (by decide +kernel))
            (fun _ _ _ _ _ => pg_name (i := 1) sc_is_work.nd rfl (Or.inl rfl)) (fun _ _ _ _ _ => pts_nil)
            (fun _ _ _ _ _ => pe_call G1 hr (by rfl) g1 kp1 b1 .nil pass0 (pa_cons (pv 1) (pa_cons (pe_glob (v := .int (-1)) (by rfl) n1 ⟨_, rfl⟩) (pa_cons (pe_op op_sub (pe_glob (v := .int 10) (by rfl) n2 ⟨_, rfl⟩) pe_int) pa_nil))))) pa_nil))))
        (pss_one (ps_ret pe_bl)) pss_nil)
      (pss_one (ps_ret (pe_and (pe_cmpR op_ne (pe_ix ix_tup (pv 0) pe_int (fun _ _ => rfl)) (pe_glob (v := .int (-1)) (by rfl) n1 ⟨_, rfl⟩) (nomark _))
        (pe_one (pe_cmpR op_ne (pe_ix ix_tup (pv 0) (pe_un un_neg pe_int) (fun _ _ => rfl)) (pe_glob (v := .int (-1)) (by rfl) n1 ⟨_, rfl⟩) (nomark _))))))), ?_⟩
    have l1 : ((ns.map V.int).length : Int) = ns.length := by rw [List.length_map]
    refine ⟨.ref a, rfl, .ref a, .ty "tuple", _, _, true, rfl, .ty _, tyT hS, kit_ty (by decide +kernel), true, rfl, iteF ?_⟩
    refine ⟨.ref a, rfl, a, ns.map V.int, rfl, .inr hS, 1, _, rfl, rfl, _, rfl, ?_⟩
    have c1 : decide ((1 : Int) ≤ ((ns.map V.int).length : Nat)) = true := decide_eq_true (by rw [List.length_map]; have := hw.pos; omega)
    rw [c1]
    refine iteT ⟨_, 60, rfl, rfl, _, rfl, ?_⟩
    have c2 : decide ((((ns.map V.int).length : Nat) : Int) ≤ 60) = true := decide_eq_true (by rw [List.length_map]; have := hw.most; omega)
    rw [c2]
    refine iteF ?_
    refine ⟨.ref a, rfl, a, rfl, ⟨_, hS⟩, fun D hD => ?_⟩
    refine lc_tup (xs := ns.map V.int) (fun i H' => Same H H' ∧ H' D = some (.lst ((((ns.take i).map inR)).map V.bl))) ⟨same_new hD, upd_same⟩ (fun i H' _ h => Same.tup h.1 hS) (fun i x H' hx h => ?_) (fun H' h => ?_)
    · rw [List.getElem?_map] at hx
      obtain ⟨z, hz, rfl⟩ := Option.map_eq_some_iff.mp hx
      have hl : i < ns.length := (List.getElem?_eq_some_iff.mp hz).1
      refine ⟨rfl, .int z, rfl, 10, 1, rfl, rfl, z, -1, _, rfl, ?_⟩
      refine ⟨_, h.2, ?_, fun b o e => ?_, ?_⟩
      · rw [List.length_map, List.length_map, List.length_take]
        have := hw.most
        exact small1000 (by omega)
      · rw [upd_ne (ne_of_none e hD)]
        exact h.1 _ _ e
      · rw [upd_same, List.take_add_one, hz, List.map_append, List.map_append]
        rfl
    · have hall : (((ns.take ns.length).map inR)).all id = true := by
        rw [List.take_length, List.all_map, List.all_eq_true]
        intro x hx
        have := hw.items x hx
        simp [inR, this.1, this.2]
      have h2 := h.2
      rw [List.length_map] at h2
      refine ⟨D, _, rfl, .of h2, true, congrArg V.bl hall, iteF ?_⟩
      have hS' : SqT K H' a (ns.map V.int) := Same.tup h.1 hS
      obtain ⟨x, hx⟩ : ∃ x, ns[0]? = some x := ⟨ns[0]'(hw.pos), List.getElem?_eq_getElem _⟩
      have hpos := hw.pos
      obtain ⟨y, hy⟩ : ∃ y, ns[ns.length - 1]? = some y := ⟨ns[ns.length - 1]'(by omega), List.getElem?_eq_getElem _⟩
      have gx : (ns.map V.int)[0]? = some (.int x) := by rw [List.getElem?_map, hx]; rfl
      have gy : atI (ns.map V.int) (-1) = some (.int y) := by
        have hne : ns ≠ [] := fun z => by rw [z] at hpos; exact absurd hpos (by decide)
        have e1 : ns = ns.dropLast ++ [y] := by
          have e2 : ns.getLast hne = y := by
            have := List.getLast_eq_getElem hne
            rw [this]
            exact (List.getElem?_eq_some_iff.mp hy).2
          rw [← e2, List.dropLast_concat_getLast]
        rw [e1, List.map_append]
        exact atI_last _ _
      refine ⟨.ref a, rfl, a, _, 0, .int x, rfl, rfl, hS', atI_nat (j := 0) gx, rfl, ?_⟩
      have d1 : decide (V.int x = V.int (-1)) = false := decide_eq_false fun z => hw.head x hx (V.int.inj z)
      rw [d1]
      refine ⟨true, rfl, iteT ?_⟩
      refine ⟨.ref a, rfl, 1, rfl, a, _, -1, .int y, rfl, rfl, hS', gy, rfl, ?_⟩
      have d2 : decide (V.int y = V.int (-1)) = false := decide_eq_false fun z => hw.last y hy (V.int.inj z)
      rw [d2]
      exact q H' h.1
def spReq (K : PySem.W.Frag) : Sp := fun vs H Q _ => ∃ (a : Addr) (ns : List Int), vs = [.ref a] ∧ SqT K H a (ns.map V.int) ∧ IsWork ns ∧ ∀ H', Same H H' → Q .non H'
theorem ok_require_work {f f1 : Addr} {fd fd1 : FuncData} {k : Nat} (F : Fun K "require_work" "require_work" s_require_work f fd)
    (G1 : FnOk P w K mg base CX0 k f1 fd1 ["thing"] (spIsWork K)) (kp1 : PySem.W.keepIn K (.ref f1) = true) (b1 : Binds K fd1 ["thing"] []) (g1 : mg "is_work" = some (.ref f1)) :
    FnOk P w K mg base CX0 (k + 1) f fd ["thing"] (spReq K) := by
  refine F.ok sc_require_work (fun vs H Q E h => ?_) (fun cdv A outer s H vs Q E hr h => ?_)
  · obtain ⟨a, ns, rfl, _⟩ := h; rfl
  · obtain ⟨a, ns, rfl, hS, hw, q⟩ := h
    refine ⟨_, pss_one (ps_if (pt_not (pt_val (pe_call G1 hr (by rfl) g1 kp1 b1 .nil pass0 (pa_cons (pv 0) pa_nil)))) (pss_one ps_never) pss_nil), ?_⟩
    exact ⟨.ref a, rfl, a, ns, rfl, hS, hw, fun H' sm => ⟨true, rfl, iteF (q H' sm)⟩⟩
/-! ### _clashes_behind -/
def spClash (K : PySem.W.Frag) : Sp := fun vs H Q _ => ∃ (a b : Addr) (one other : List Int) (d : Nat), vs = [.ref a, .ref b, .int d] ∧ SqT K H a (one.map V.int) ∧ SqT K H b (other.map V.int) ∧ one.length ≤ 60 ∧ 1 ≤ d ∧ d < one.length ∧
  ∀ H', Same H H' → Q (.bl (clashB one other d)) H'
theorem ok_clashes_behind {f : Addr} {fd : FuncData} {k : Nat} (F : Fun K "_clashes_behind" "_clashes_behind" s_clashes_behind f fd) (N : Nums mg) (m1 : mg "any" = none) (m2 : mg "zip" = none) :
    FnOk P w K mg base CX0 (k + 1) f fd ["one", "other", "distance"] (spClash K) := by
  obtain ⟨t1, n1⟩ := N.nowhere
  refine F.ok sc_clashes_behind (fun vs H Q E h => ?_) (fun cdv A outer s H vs Q E hr h => ?_)
  · obtain ⟨a, b, o1, o2, d, rfl, _⟩ := h; rfl
  · obtain ⟨a, b, one, other, d, rfl, hA, hB, hm, hd1, hd2, q⟩ := h
    refine ⟨_, pss_one (ps_ret (pe_callB (cr_any rfl) (by rfl) m1 (by decide +kernel) (pa_cons
      (pe_lc (own := [("here", 3), ("there", 4)]) (g := gTup K 2 (gCons (gName 3) (gCons (gName 4) gNil))) (tt := tYes) rfl sc_clashes_behind.nd (RZ.pi_zipA (by rfl) m2 (pa_cons (pe_slice sl_tup (pv 0) (po_some (pv 2)) po_none) (pa_cons (pv 1) pa_nil)))
        (blkOk_by (N := ["one", "other", "distance", "here", "there"]) (sc := defScope s_clashes_behind) (by decide +kernel))
        (fun _ _ _ _ _ => pg_tup rfl (pgs_cons (pg_name (i := 3) sc_clashes_behind.nd rfl (Or.inl rfl)) (pgs_cons (pg_name (i := 4) sc_clashes_behind.nd rfl (Or.inl rfl)) pgs_nil)))
        (fun _ _ _ _ _ => pts_nil)
        (fun _ _ _ _ _ => pe_and (pe_cmpR op_eq (pv 3) (pv 4) (nomark _)) (pe_one (pe_cmpR op_ne (pv 3) (pe_glob (v := .int (-1)) (by rfl) n1 ⟨_, rfl⟩) (nomark _))))) pa_nil))), ?_⟩
    have hcut : cutV (one.map V.int) (some (d : Int)) none = (one.drop d).map V.int := by rw [cut_from, List.map_drop]
    refine ⟨.ref a, rfl, .int d, rfl, d, rfl, a, _, rfl, hA, ?_, fun c nc => ?_⟩
    · rintro ⟨z, _⟩
      rw [HT.sIx_nat, List.length_map] at z
      omega
    rw [hcut]
    have s1 : Same H (upd H c (.tup ((one.drop d).map V.int))) := same_new nc
    refine ⟨.ref b, rfl, c, b, _, _, rfl, .inr ⟨.of upd_same, Same.tup s1 hB, fun D hD => ?_⟩⟩
    have s2 : Same (upd H c (.tup ((one.drop d).map V.int))) (upd (upd H c (.tup ((one.drop d).map V.int))) D (.lst [])) := same_new hD
    have hc0 : (upd H c (.tup ((one.drop d).map V.int))) c = some (.tup ((one.drop d).map V.int)) := upd_same
    refine lc_it (walk_zipT (xs := (one.drop d).map V.int) (ys := other.map V.int) (n := min (one.drop d).length other.length) (by rw [List.length_map, List.length_map]))
      (fun i H' => Same (upd H c (.tup ((one.drop d).map V.int))) H' ∧ H' D = some (.lst ((hitsTo one other d i).map V.bl))) ⟨s2, upd_same⟩
      (fun i H' _ h => ⟨.of (h.1 _ _ hc0), Same.tup (s1.trans h.1) hB⟩) (fun i x H' H'' hi h hY => ?_) (fun H' h => ?_)
    · obtain ⟨T, x1, x2, rfl, nT, rfl, f1, f2⟩ := hY
      dsimp only at f1 f2
      rw [List.getElem?_map] at f1 f2
      obtain ⟨z1, hz1, rfl⟩ := Option.map_eq_some_iff.mp f1
      obtain ⟨z2, hz2, rfl⟩ := Option.map_eq_some_iff.mp f2
      have nTD : D ≠ T := ne_of_none h.2 nT
      refine ⟨T, _, rfl, .of upd_same, rfl, _, _, rfl, _, _, rfl, rfl, rfl, ?_⟩
      have fin : ∀ bb : Bool, bb = (z1 == z2 && z1 != -1) → ∃ acc, (upd H' T (.tup [V.int z1, V.int z2])) D = some (.lst acc) ∧ acc.length < sizeLine ∧
          (Same (upd H c (.tup ((one.drop d).map V.int))) (upd (upd H' T (.tup [V.int z1, V.int z2])) D (.lst (acc ++ [V.bl bb]))) ∧ (upd (upd H' T (.tup [V.int z1, V.int z2])) D (.lst (acc ++ [V.bl bb]))) D = some (.lst ((hitsTo one other d (i + 1)).map V.bl))) := by
        rintro bb rfl
        refine ⟨_, by rw [upd_ne nTD]; exact h.2, ?_, fun y o e => ?_, ?_⟩
        · rw [List.length_map]
          have := hits_len one other d i
          exact small1000 (by rw [List.length_drop] at hi; omega)
        · rw [upd_ne (ne_of_none e hD)]
          exact same_new nT _ _ (h.1 _ _ e)
        · rw [upd_same, hits_succ hz1 hz2, List.map_append]
          rfl
      refine ⟨.int z1, rfl, .int z2, rfl, rfl, ?_⟩
      by_cases hz : z1 = z2
      · subst hz
        rw [decide_eq_true (rfl : V.int z1 = V.int z1)]
        refine ⟨true, rfl, iteT ⟨.int z1, rfl, rfl, ?_⟩⟩
        refine fin _ ?_
        by_cases hn : z1 = -1
        · subst hn; rfl
        · rw [decide_eq_false fun z => hn (V.int.inj z)]
          simp [hn]
      · rw [decide_eq_false fun z => hz (V.int.inj z)]
        refine ⟨false, rfl, iteF (fin _ ?_)⟩
        simp [hz]
    · refine ⟨D, _, rfl, .of h.2, ?_⟩
      rw [hits_any]
      exact q H' (s1.trans h.1)
/-! ### bars -/
def spBars (K : PySem.W.Frag) : Sp := fun vs H Q _ => ∃ (a b : Addr) (one other : List Int), vs = [.ref a, .ref b] ∧ SqT K H a (one.map V.int) ∧ SqT K H b (other.map V.int) ∧ IsWork one ∧ IsWork other ∧
  ∀ H' p, Same H H' → H p = none → H' p = some (.tup (nV (barsN one other))) → Q (.ref p) H'
theorem ok_bars {f f1 f2 : Addr} {fd fd1 fd2 : FuncData} {k : Nat} (F : Fun K "bars" "bars" s_bars f fd)
    (G1 : FnOk P w K mg base CX0 k f1 fd1 ["thing"] (spReq K)) (kp1 : PySem.W.keepIn K (.ref f1) = true) (b1 : Binds K fd1 ["thing"] []) (g1 : mg "require_work" = some (.ref f1))
    (G2 : FnOk P w K mg base CX0 k f2 fd2 ["one", "other", "distance"] (spClash K)) (kp2 : PySem.W.keepIn K (.ref f2) = true) (b2 : Binds K fd2 ["one", "other", "distance"] []) (g2 : mg "_clashes_behind" = some (.ref f2))
    (m1 : mg "tuple" = none) (m2 : mg "range" = none) (m3 : mg "len" = none) :
    FnOk P w K mg base CX0 (k + 1) f fd ["one", "other"] (spBars K) := by
  refine F.ok sc_bars (fun vs H Q E h => ?_) (fun cdv A outer s H vs Q E hr h => ?_)
  · obtain ⟨a, b, o1, o2, rfl, _⟩ := h; rfl
  · obtain ⟨a, b, one, other, rfl, hA, hB, w1, w2, q⟩ := h
    refine ⟨_, pss_cons (ps_expr (pe_call G1 hr (by rfl) g1 kp1 b1 .nil pass0 (pa_cons (pv 0) pa_nil))) (pss_cons (ps_expr (pe_call G1 hr (by rfl) g1 kp1 b1 .nil pass0 (pa_cons (pv 1) pa_nil)))
      (pss_one (ps_ret (pe_callTy call_tuple_of (by rfl) m1 (by decide +kernel) (pa_cons
        (pe_lc (own := [("distance", 2)]) (g := gName 2) rfl sc_bars.nd (pi_range2 (by rfl) m2 (pa_cons pe_int (pa_cons (pe_callB call_len_seq (by rfl) m3 PySem.boot_len (pa_cons (pv 0) pa_nil)) pa_nil)))
          (blkOk_by (N := ["one", "other", "distance"]) (sc := defScope s_bars) (by decide +kernel))
          (fun _ _ _ _ _ => pg_name (i := 2) sc_bars.nd rfl (Or.inl rfl))
          (fun _ _ _ _ _ => pts_one (pt_val (pe_call G2 hr (by rfl) g2 kp2 b2 .nil pass0 (pa_cons (pv 0) (pa_cons (pv 1) (pa_cons (pv 2) pa_nil))))))
          (fun _ _ _ _ _ => pv 2)) pa_nil))))), ?_⟩
    refine ⟨.ref a, rfl, a, one, rfl, hA, w1, fun H1 e1 => ?_⟩
    refine ⟨.ref b, rfl, b, other, rfl, Same.tup e1 hB, w2, fun H2 e2 => ?_⟩
    have e12 : Same H H2 := e1.trans e2
    have hA2 := Same.tup e12 hA
    have hB2 := Same.tup e12 hB
    refine ⟨.ref a, rfl, a, one.map V.int, rfl, .inr hA2, 1, _, rfl, ?_, fun D hD => ?_⟩
    · rw [List.length_map]
      have := w1.most
      omega
    have en : (((one.map V.int).length : Int) - 1).toNat = one.length - 1 := by rw [List.length_map]; omega
    rw [en]
    refine lc_range (lo := 1) (n := one.length - 1) (fun i H' => Same H2 H' ∧ H' D = some (.lst (nV (barsTo one other i)))) ⟨same_new hD, upd_same⟩ (fun i H' hi h => ?_) (fun H' h => ?_)
    · refine ⟨rfl, ?_⟩
      have ed : ((1 : Int) + (i : Int)) = ((1 + i : Nat) : Int) := by omega
      refine ⟨.ref a, rfl, .ref b, rfl, .int (1 + i), rfl, a, b, one, other, 1 + i, by rw [ed]; rfl, Same.tup h.1 hA2, Same.tup h.1 hB2, w1.most, by omega, by omega, fun H'' e3 => ?_⟩
      refine ⟨_, rfl, ?_⟩
      have hD3 := e3 _ _ h.2
      cases hc : clashB one other (1 + i) with
      | true =>
        refine iteT ⟨_, rfl, _, hD3, ?_, fun y o e => ?_, ?_⟩
        · rw [List.length_map]
          have := barsTo_len one other i
          have := w1.most
          exact small1000 (by omega)
        · rw [upd_ne (ne_of_none e hD)]
          exact e3 _ _ (h.1 _ _ e)
        · rw [upd_same, barsTo_yes hc]
      | false =>
        refine iteF ⟨h.1.trans e3, ?_⟩
        rw [barsTo_no hc]
        exact hD3
    · refine ⟨D, _, rfl, .inl ⟨.of h.2, fun l hl => ?_⟩⟩
      have e3 : Same H H' := e12.trans h.1
      exact q _ l (e3.trans (same_new hl)) (Same.free e3 hl) upd_same
end
end Sg

set_option Elab.async false
set_option linter.all false
set_option maxRecDepth 100000
set_option maxHeartbeats 4000000
namespace Sg
open PySem PySem.Spec PyProof.Rows L2
/-! ## data that is shown -/
/-- data made of small ints, in lists and tuples, no deeper than n, of bulk b at most -/
structure Small (d : PyData) (n b : Nat) : Prop where
  sh : d.showable = true
  nd : d.hasDict = false
  dp : d.depth ≤ n
  lv : d.leavesShort 15 = true
  bk : d.bulk ≤ b
  ly : d.canLay0 = true
structure SmallAll (ds : List PyData) (n b : Nat) : Prop where
  sh : PyData.showableAll ds = true
  nd : PyData.hasDictAll ds = false
  dp : PyData.depthAll ds ≤ n
  lv : PyData.leavesShortAll 15 ds = true
  bk : PyData.bulkAll ds ≤ b
  ly : PyData.canLayAll0 ds = true
theorem Small.shows {d : PyData} {n b : Nat} (h : Small d n b) (hn : n ≤ 40) (hb : b ≤ 900000) : Shows d := by
  refine ⟨h.sh, h.nd, Nat.le_trans h.dp hn, ?_⟩
  have h1 := PyData.shown_le_bulk 15 (by decide) d h.lv
  have h2 := h.bk
  have h3 : (15 + 2) * d.bulk ≤ (15 + 2) * 900000 := Nat.mul_le_mul_left _ (Nat.le_trans h2 hb)
  have h4 : sizeLine = 16777216 := sizeLine_eq
  omega
theorem Small.shaped {d : PyData} {n b : Nat} (h : Small d n b) (hn : n ≤ 64) : SeqAt.shaped d = true := by
  unfold SeqAt.shaped
  rw [h.ly, decide_eq_true (Nat.le_trans h.dp hn)]
  rfl
theorem Small.list {ds : List PyData} {n b : Nat} (h : SmallAll ds n b) : Small (.list ds) (n + 1) b :=
  ⟨by simpa only [PyData.showable] using h.sh, by simpa only [PyData.hasDict] using h.nd, by simpa only [PyData.depth] using Nat.succ_le_succ h.dp,
    by simpa only [PyData.leavesShort] using h.lv, by simpa only [PyData.bulk] using h.bk, by simpa only [PyData.canLay0] using h.ly⟩
theorem Small.tuple {ds : List PyData} {n b : Nat} (h : SmallAll ds n b) : Small (.tuple ds) (n + 1) b :=
  ⟨by simpa only [PyData.showable] using h.sh, by simpa only [PyData.hasDict] using h.nd, by simpa only [PyData.depth] using Nat.succ_le_succ h.dp,
    by simpa only [PyData.leavesShort] using h.lv, by simpa only [PyData.bulk] using h.bk, by simpa only [PyData.canLay0] using h.ly⟩
theorem SmallAll.nil {n b : Nat} : SmallAll [] n b := ⟨by simp only [PyData.showableAll], by simp only [PyData.hasDictAll], by simp only [PyData.depthAll]; exact Nat.zero_le _,
  by simp only [PyData.leavesShortAll], by simp only [PyData.bulkAll]; exact Nat.zero_le _, by simp only [PyData.canLayAll0]⟩
theorem SmallAll.cons {d : PyData} {ds : List PyData} {n b c : Nat} (h : Small d n b) (r : SmallAll ds n c) : SmallAll (d :: ds) n (b + 1 + c) :=
  ⟨by simp only [PyData.showableAll, h.sh, r.sh, Bool.and_self], by simp only [PyData.hasDictAll, h.nd, r.nd, Bool.or_self], by simp only [PyData.depthAll]; exact Nat.max_le.mpr ⟨h.dp, r.dp⟩,
    by simp only [PyData.leavesShortAll, h.lv, r.lv, Bool.and_self], by simp only [PyData.bulkAll]; have h1 := h.bk; have h2 := r.bk; omega, by simp only [PyData.canLayAll0, h.ly, r.ly, Bool.and_self]⟩
theorem Small.int {i : Int} {n b : Nat} (h1 : -99999999999999 ≤ i) (h2 : i ≤ 99999999999999) : Small (.int i) n b := by
  refine ⟨?_, by simp only [PyData.hasDict], by simp only [PyData.depth]; exact Nat.zero_le _, ?_, by simp only [PyData.bulk]; exact Nat.zero_le _, by simp only [PyData.canLay0]⟩
  · simp only [PyData.showable, decide_eq_true_eq]
    have h3 : i.natAbs < 2 ^ 47 := by omega
    have h4 := PySem.Flt.log2_lt_of (show 0 < 47 by decide) h3
    omega
  · simp only [PyData.leavesShort, decide_eq_true_eq]
    have h6 : i.natAbs < 10 ^ 14 := by
      have e : (10 : Nat) ^ 14 = 100000000000000 := by decide
      rw [e]
      omega
    have h5 := int_text_length_le10 (k := 14) (by decide) h6
    show (Str.ofString (toString i)).length ≤ 15
    rw [PySem.ofString_length]
    exact h5
theorem Small.mono {d : PyData} {n m b c : Nat} (h : Small d n b) (hn : n ≤ m) (hb : b ≤ c) : Small d m c := ⟨h.sh, h.nd, Nat.le_trans h.dp hn, h.lv, Nat.le_trans h.bk hb, h.ly⟩
theorem SmallAll.mono {d : List PyData} {n m b c : Nat} (h : SmallAll d n b) (hn : n ≤ m) (hb : b ≤ c) : SmallAll d m c := ⟨h.sh, h.nd, Nat.le_trans h.dp hn, h.lv, Nat.le_trans h.bk hb, h.ly⟩
abbrev iD (ns : List Int) : List PyData := ns.map PyData.int
theorem SmallAll.ints {n : Nat} : ∀ (ns : List Int), (∀ x ∈ ns, -99999999999999 ≤ x ∧ x ≤ 99999999999999) → SmallAll (iD ns) n ns.length
  | [], _ => .nil
  | x :: r, h => by
    have h1 := h x List.mem_cons_self
    have h2 := SmallAll.cons (Small.int (n := n) (b := 0) h1.1 h1.2) (SmallAll.ints r fun y hy => h y (List.mem_cons_of_mem _ hy))
    exact h2.mono (Nat.le_refl _) (by show 0 + 1 + r.length ≤ r.length + 1; omega)
theorem dpInts {K : PySem.W.Frag} {H : Hp} : ∀ (ns : List Int), DpAll K H (ns.map V.int) (iD ns)
  | [] => .nil
  | x :: r => .cons (.int x) (dpInts r)
abbrev nI (l : List Nat) : List Int := l.map fun d => ((d : Nat) : Int)
theorem nV_eq (l : List Nat) : nV l = (nI l).map V.int := by rw [List.map_map]; rfl
theorem IsWork.small {ns : List Int} (h : IsWork ns) {n : Nat} : SmallAll (iD ns) n 60 :=
  (SmallAll.ints ns fun x hx => by have := h.items x hx; omega).mono (Nat.le_refl _) h.most
theorem bars_small {one other : List Int} (h : IsWork one) {n : Nat} : SmallAll (iD (nI (barsN one other))) n 60 := by
  refine (SmallAll.ints _ fun x hx => ?_).mono (Nat.le_refl _) ?_
  · obtain ⟨d, hd, rfl⟩ := List.mem_map.mp hx
    have h1 := (List.mem_filter.mp hd).1
    have h2 := List.mem_range'_1.mp h1
    have := h.most
    omega
  · rw [List.length_map]
    have := barsTo_len one other (one.length - 1)
    have := h.most
    exact Nat.le_trans (barsTo_len one other (one.length - 1)) (by omega)
section
variable {P : Program} {w : World} {K : PySem.W.Frag} {mg : Str → Option Value} {base : Heap}
/-! ### _law_same -/
def spSame (K : PySem.W.Frag) : Sp := fun vs H Q _ => ∃ (a b : Addr) (d : PyData), vs = [.ref a, .ref b] ∧ Dp K H (.ref a) d ∧ Dp K H (.ref b) d ∧ Shows d ∧ Q (.bl true) H
theorem PenAt.upd {H : Hp} {p q : Addr} {o : HO} (h : PenAt H p) (n : p ≠ q) : PenAt (upd H q o) p := by
  obtain ⟨a, b, c, h1, h2⟩ := h
  exact ⟨a, b, c, by rw [upd_ne n]; exact h1, h2⟩
theorem PenAt.ne {H : Hp} {p q : Addr} (h : PenAt H p) (n : H q = none) : p ≠ q := by
  obtain ⟨a, b, c, h1, _⟩ := h
  exact ne_of_none h1 n
/-! ### _law_work -/
def spWork : Sp := fun vs H Q _ => ∃ (p : Addr) (m st : Int), vs = [.ref p, .int m, .int st] ∧ PenAt H p ∧ 1 ≤ m ∧ m ≤ 60 ∧ 1 ≤ st ∧ st ≤ 10 ∧
  ∀ H' t (ns : List Int), PenAt H' p → But p H H' → H t = none → H' t = some (.tup (ns.map V.int)) → IsWork ns → (ns.length : Int) ≤ m → (∀ x ∈ ns, x < st) → Q (.ref t) H'
theorem ok_l_work {f f1 : Addr} {fd fd1 : FuncData} {k : Nat} (F : Fun K "_law_work" "_law_work" s_l_work f fd)
    (G1 : FnOk P w K mg base CX0 k f1 fd1 ["_law_pen_here", "_law_many"] spDraw) (kp1 : PySem.W.keepIn K (.ref f1) = true) (b1 : Binds K fd1 ["_law_pen_here", "_law_many"] []) (g1 : mg "_law_draw" = some (.ref f1))
    (m1 : mg "range" = none) (m2 : mg "tuple" = none) :
    FnOk P w K mg base CX0 (k + 1) f fd ["_law_pen_here", "_law_most", "_law_stations"] spWork := by
  refine F.ok sc_l_work (fun vs H Q E h => ?_) (fun cdv A outer s H vs Q E hr h => ?_)
  · obtain ⟨p, m, st, rfl, _⟩ := h; rfl
  · obtain ⟨p, m, st, rfl, hp, hm1, hm2, hs1, hs2, q⟩ := h
    refine ⟨_, pss_cons (ps_asg (pe_tup (pa_cons (pe_call G1 hr (by rfl) g1 kp1 b1 .nil pass0 (pa_cons (pv 0) (pa_cons pe_int pa_nil)))
        (pa_cons (pe_op op_add pe_int (pe_call G1 hr (by rfl) g1 kp1 b1 .nil pass0 (pa_cons (pv 0) (pa_cons (pv 1) pa_nil)))) pa_nil)))
        (pg_tup rfl (pgs_cons (pg_name (i := 3) sc_l_work.nd rfl (.inr rfl)) (pgs_cons (pg_name (i := 4) sc_l_work.nd rfl (.inl rfl)) pgs_nil))))
      (pss_cons (ps_setLc (i := 5) (own := [("_law_turn", 6)]) (g := gName 6) (tt := tYes) rfl sc_l_work.nd rfl rfl (sw_true rfl rfl rfl (by decide +kernel)) (pi_range1 (by rfl) m1 (pa_cons (pv 4) pa_nil))
          (blkOk_by (N := ["_law_pen_here", "_law_most", "_law_stations", "_law_way", "_law_long", "_law_items", "_law_turn"]) (sc := defScope s_l_work) (by decide +kernel))
          (fun _ _ _ _ _ => pg_name (i := 6) sc_l_work.nd rfl (Or.inl rfl)) (fun _ _ _ _ _ => pts_nil)
          (fun _ _ _ _ _ => pe_ifExp (pt_cmpR op_ge (pe_call G1 hr (by rfl) g1 kp1 b1 .nil pass0 (pa_cons (pv 0) (pa_cons pe_int pa_nil))) (pv 3) (nomark _))
            (pe_call G1 hr (by rfl) g1 kp1 b1 .nil pass0 (pa_cons (pv 0) (pa_cons (pv 2) pa_nil))) (pe_un un_neg pe_int)))
      (pss_cons (ps_asg (pe_tup (pa_cons (pe_call G1 hr (by rfl) g1 kp1 b1 .nil pass0 (pa_cons (pv 0) (pa_cons (pv 2) pa_nil))) (pa_cons (pe_call G1 hr (by rfl) g1 kp1 b1 .nil pass0 (pa_cons (pv 0) (pa_cons (pv 2) pa_nil))) pa_nil)))
        (pg_tup rfl (pgs_cons (pg_sub (pv 5) pe_int set_list) (pgs_cons (pg_sub (pv 5) (pe_un un_neg pe_int) set_list) pgs_nil))))
      (pss_one (ps_ret (pe_callTy call_tuple_of (by rfl) m2 (by decide +kernel) (pa_cons (pv 5) pa_nil)))))), ?_⟩
    refine ⟨.ref p, rfl, p, 3, rfl, hp, by decide, by decide, fun H1 way a1 a2 p1 e1 => ?_⟩
    refine ⟨.ref p, rfl, .int m, rfl, p, m, rfl, p1, by omega, by omega, fun H2 l0 a3 a4 p2 e2 => ?_⟩
    refine ⟨1, l0, rfl, rfl, by show 2 ≤ sizeLine; decide, fun T nT => ?_⟩
    have e12 := e1.trans e2
    have p3 : PenAt (upd H2 T (.tup [.int way, .int (1 + l0)])) p := p2.upd (p2.ne nT)
    have e3 : But p H (upd H2 T (.tup [.int way, .int (1 + l0)])) := e12.trans (.of (same_new nT))
    refine ⟨T, _, rfl, .of upd_same, rfl, _, _, rfl, _, _, rfl, rfl, ?_⟩
    generalize hH3 : upd H2 T (.tup [.int way, .int (1 + l0)]) = H3 at p3 e3 ⊢
    refine ⟨.int (1 + l0), rfl, 1 + l0, rfl, by omega, by omega, fun D hD => ?_⟩
    have n3 : p ≠ D := p3.ne hD
    refine lc_range (lo := 0) (n := (1 + l0).toNat) (fun i H' => PenAt H' p ∧ But p H3 H' ∧ ∃ ns : List Int, ns.length = i ∧ (∀ x ∈ ns, -1 ≤ x ∧ x < st) ∧ H' D = some (.lst (ns.map V.int)))
      ⟨p3.upd n3, .of (same_new hD), [], rfl, (fun x hx => nomatch hx), upd_same⟩ (fun i H' hi h => ?_) (fun H' h => ?_)
    · obtain ⟨p4, e4, ns, hlen, hall, hDl⟩ := h
      refine ⟨rfl, ?_⟩
      have fin : ∀ (H'' : Hp) (r : Int), PenAt H'' p → But p H' H'' → -1 ≤ r → r < st → ∃ acc, H'' D = some (.lst acc) ∧ acc.length < sizeLine ∧
          (PenAt (upd H'' D (.lst (acc ++ [V.int r]))) p ∧ But p H3 (upd H'' D (.lst (acc ++ [V.int r]))) ∧ ∃ ns : List Int, ns.length = i + 1 ∧ (∀ x ∈ ns, -1 ≤ x ∧ x < st) ∧ (upd H'' D (.lst (acc ++ [V.int r]))) D = some (.lst (ns.map V.int))) := by
        intro H'' r p5 e5 r1 r2
        have hD5 := e5 _ _ (Ne.symm n3) hDl
        refine ⟨_, hD5, ?_, p5.upd n3, fun b o n e => ?_, ns ++ [r], ?_, fun x hx => ?_, ?_⟩
        · rw [List.length_map]
          exact small1000 (by omega)
        · rw [upd_ne (ne_of_none e hD)]
          exact e5 _ _ n (e4 _ _ n e)
        · rw [List.length_append]; show ns.length + 1 = i + 1; omega
        · rcases List.mem_append.mp hx with z | z
          · exact hall x z
          · rw [List.mem_singleton.mp z]; exact ⟨r1, r2⟩
        · rw [upd_same, List.map_append]; rfl
      refine ⟨.ref p, rfl, p, 3, rfl, p4, by decide, by decide, fun H5 r b1 b2 p5 e5 => ?_⟩
      refine ⟨.int way, rfl, r, way, rfl, rfl, _, rfl, ite2 (fun _ => ?_) (fun _ => ?_)⟩
      · exact ⟨.ref p, rfl, .int st, rfl, p, st, rfl, p5, by omega, by omega, fun H6 r' c1 c2 p6 e6 => fin H6 r' p6 (e5.trans e6) (by omega) c2⟩
      · exact ⟨1, rfl, fin H5 (-1) p5 e5 (by omega) (by omega)⟩
    · obtain ⟨p4, e4, ns, hlen, hall, hDl⟩ := h
      refine ⟨.ref p, rfl, .int st, rfl, p, st, rfl, p4, by omega, by omega, fun H5 r c1 c2 p5 e5 => ?_⟩
      refine ⟨.ref p, rfl, .int st, rfl, p, st, rfl, p5, by omega, by omega, fun H6 r' c3 c4 p6 e6 => ?_⟩
      refine ⟨by show 2 ≤ sizeLine; decide, fun U nU => ?_⟩
      have hD6 := (e5.trans e6) _ _ (Ne.symm n3) hDl
      have nDU : D ≠ U := ne_of_none hD6 nU
      have hl0 : 0 < ns.length := by omega
      have hpos : ((ns.map V.int).length : Nat) = ns.length := by rw [List.length_map]
      refine ⟨U, _, rfl, .of upd_same, rfl, _, _, rfl, ?_⟩
      have hD7 : (upd H6 U (.tup [.int r, .int r'])) D = some (.lst (ns.map V.int)) := by rw [upd_ne nDU]; exact hD6
      have ix0 : ixN (ns.map V.int).length 0 = some 0 := by
        unfold ixN
        rw [if_pos (by decide), if_pos (by rw [hpos]; omega)]; rfl
      refine ⟨.ref D, rfl, D, _, 0, 0, rfl, rfl, hD7, ix0, ?_⟩
      have hD8 : (upd (upd H6 U (.tup [.int r, .int r'])) D (.lst ((ns.map V.int).set 0 (.int r)))) D = some (.lst ((ns.map V.int).set 0 (.int r))) := upd_same
      have ix1 : ixN ((ns.map V.int).set 0 (.int r)).length (-1) = some (ns.length - 1) := by
        unfold ixN
        rw [List.length_set, hpos, if_neg (by decide), if_pos (by omega)]
        congr 1
        omega
      refine ⟨_, _, rfl, .ref D, rfl, 1, rfl, D, _, -1, ns.length - 1, rfl, rfl, hD8, ix1, rfl, ?_⟩
      have eL : (((ns.map V.int).set 0 (.int r)).set (ns.length - 1) (.int r')) = (((ns.set 0 r).set (ns.length - 1) r').map V.int) := by rw [List.map_set, List.map_set]
      rw [eL]
      have hD9 : (upd (upd (upd H6 U (.tup [.int r, .int r'])) D (.lst ((ns.map V.int).set 0 (.int r)))) D (.lst (((ns.set 0 r).set (ns.length - 1) r').map V.int))) D = some (.lst (((ns.set 0 r).set (ns.length - 1) r').map V.int)) := upd_same
      have mem : ∀ x ∈ ((ns.set 0 r).set (ns.length - 1) r'), -1 ≤ x ∧ x < st := by
        intro x hx
        rcases List.mem_or_eq_of_mem_set hx with z | z
        · rcases List.mem_or_eq_of_mem_set z with z | z
          · exact hall x z
          · rw [z]; exact ⟨by omega, c2⟩
        · rw [z]; exact ⟨by omega, c4⟩
      have len' : ((ns.set 0 r).set (ns.length - 1) r').length = ns.length := by rw [List.length_set, List.length_set]
      refine ⟨.ref D, rfl, D, _, rfl, .inl ⟨.of hD9, fun t nt => ?_⟩⟩
      refine q _ t ((ns.set 0 r).set (ns.length - 1) r') ?_ ?_ ?_ upd_same ⟨by omega, by omega, fun x hx => ?_, fun x hx => ?_, fun x hx => ?_⟩ (by omega) (fun x hx => (mem x hx).2)
      · refine PenAt.upd (PenAt.upd (PenAt.upd (p6.upd (p6.ne nU)) n3) n3) (PenAt.ne (PenAt.upd (PenAt.upd (p6.upd (p6.ne nU)) n3) n3) nt)
      · refine fun b o n e => ?_
        have z := (e5.trans e6) _ _ n (e4 _ _ n (e3 _ _ n e))
        have nbD : b ≠ D := ne_of_none (e3 _ _ n e) hD
        have nbU : b ≠ U := ne_of_none z nU
        rw [upd_ne (ne_of_none (show (upd (upd (upd H6 U (.tup [.int r, .int r'])) D (.lst ((ns.map V.int).set 0 (.int r)))) D (.lst (((ns.set 0 r).set (ns.length - 1) r').map V.int))) b = some o by rw [upd_ne nbD, upd_ne nbD, upd_ne nbU]; exact z) nt), upd_ne nbD, upd_ne nbD, upd_ne nbU]
        exact z
      · -- t is new
        have nt6 : H6 t = none := by
          have z := nt
          have htD : t ≠ D := fun z' => by rw [z', hD9] at z; exact nomatch z
          rw [upd_ne htD, upd_ne htD] at z
          by_cases htU : t = U
          · rw [htU]; exact nU
          · rwa [upd_ne htU] at z
        exact hp.free p6 (e3.trans (e4.trans (e5.trans e6))) nt6
      · exact ⟨(mem x hx).1, by have := (mem x hx).2; omega⟩
      · have : x = r ∨ x = r' := by
          rw [List.getElem?_set] at hx
          split at hx
          · rw [if_pos (by rw [List.length_set]; omega)] at hx
            exact .inr (Option.some.inj hx).symm
          · rw [List.getElem?_set, if_pos rfl, if_pos hl0] at hx
            exact .inl (Option.some.inj hx).symm
        omega
      · rw [len', List.getElem?_set, if_pos rfl, if_pos (by rw [List.length_set]; omega)] at hx
        have := Option.some.inj hx
        omega
end
end Sg

set_option Elab.async false
set_option linter.all false
set_option maxRecDepth 100000
set_option maxHeartbeats 4000000
namespace Sg
open PySem PySem.Spec PyProof.Rows L2
/-! ## data of ints and tuples alone -/
section
variable {K : PySem.W.Frag} {H H' : Hp}
mutual
inductive Tp (K : PySem.W.Frag) (H : Hp) : V → PyData → Prop
  | int (i : Int) : Tp K H (.int i) (.int i)
  | tu {a : Addr} {xs : List V} {ds : List PyData} : SqT K H a xs → TpAll K H xs ds → Tp K H (.ref a) (.tuple ds)
inductive TpAll (K : PySem.W.Frag) (H : Hp) : List V → List PyData → Prop
  | no : TpAll K H [] []
  | on {v : V} {vs : List V} {d : PyData} {ds : List PyData} : Tp K H v d → TpAll K H vs ds → TpAll K H (v :: vs) (d :: ds)
end
mutual
theorem Tp.dp : ∀ {v : V} {d : PyData}, Tp K H v d → Dp K H v d
  | _, _, .int i => .int i
  | _, _, .tu h r => .tup h (TpAll.dp r)
theorem TpAll.dp : ∀ {v : List V} {d : List PyData}, TpAll K H v d → DpAll K H v d
  | _, _, .no => .nil
  | _, _, .on a r => .cons (Tp.dp a) (TpAll.dp r)
end
/-- all tuples and all instances are as they were -/
structure St (K : PySem.W.Frag) (H H' : Hp) : Prop where
  tu : ∀ a xs, SqT K H a xs → SqT K H' a xs
  ob : ∀ a C dx fs, H a = some (.ins C dx fs) → H' a = some (.ins C dx fs)
theorem St.refl : St K H H := ⟨fun _ _ h => h, fun _ _ _ _ h => h⟩
theorem St.trans {H2 : Hp} (a : St K H H') (b : St K H' H2) : St K H H2 := ⟨fun _ _ h => b.tu _ _ (a.tu _ _ h), fun _ _ _ _ h => b.ob _ _ _ _ (a.ob _ _ _ _ h)⟩
theorem St.of (e : Same H H') : St K H H' := ⟨fun _ _ h => Same.tup e h, fun _ _ _ _ h => e _ _ h⟩
theorem St.but {p : Addr} {ys : List V} (e : But p H H') (hp : H p = some (.lst ys)) : St K H H' :=
  ⟨fun _ _ h => But.tup e hp h, fun a C dx fs h => e _ _ (fun z => by rw [z, hp] at h; exact nomatch h) h⟩
theorem St.pen {p : Addr} (e : But p H H') (hp : PenAt H p) : St K H H' := by
  obtain ⟨a, b, c, h, _⟩ := hp
  exact .but e h
mutual
theorem Tp.stayT (e : ∀ a xs, SqT K H a xs → SqT K H' a xs) : ∀ {v : V} {d : PyData}, Tp K H v d → Tp K H' v d
  | _, _, .int i => .int i
  | _, _, .tu h r => .tu (e _ _ h) (TpAll.stayT e r)
theorem TpAll.stayT (e : ∀ a xs, SqT K H a xs → SqT K H' a xs) : ∀ {v : List V} {d : List PyData}, TpAll K H v d → TpAll K H' v d
  | _, _, .no => .no
  | _, _, .on a r => .on (Tp.stayT e a) (TpAll.stayT e r)
end
theorem tu_ins {p C dx : Addr} {fs : List (Str × V)} {o : HO} (hp : H p = some (.ins C dx fs)) : ∀ a xs, SqT K H a xs → SqT K (upd H p o) a xs := by
  intro a xs h
  have ne : ∀ u, H a = some u → (∀ C dx fs, u ≠ .ins C dx fs) → a ≠ p := fun u hu n z => by
    rw [z, hp] at hu
    exact n _ _ _ (Option.some.inj hu).symm
  exact h.imp (fun z => z.imp (fun z => by rw [upd_ne (ne _ z (fun _ _ _ q => nomatch q))]; exact z) fun ⟨u, z⟩ => ⟨u, by rw [upd_ne (ne _ z (fun _ _ _ q => nomatch q))]; exact z⟩) id
mutual
theorem Tp.stay (e : St K H H') : ∀ {v : V} {d : PyData}, Tp K H v d → Tp K H' v d
  | _, _, .int i => .int i
  | _, _, .tu h r => .tu (e.tu _ _ h) (TpAll.stay e r)
theorem TpAll.stay (e : St K H H') : ∀ {v : List V} {d : List PyData}, TpAll K H v d → TpAll K H' v d
  | _, _, .no => .no
  | _, _, .on a r => .on (Tp.stay e a) (TpAll.stay e r)
end
theorem TpAll.len : ∀ {vs : List V} {ds : List PyData}, TpAll K H vs ds → vs.length = ds.length
  | _, _, .no => rfl
  | _, _, .on _ r => congrArg (· + 1) (TpAll.len r)
theorem TpAll.at : ∀ {vs : List V} {ds : List PyData} {i : Nat} {v : V}, TpAll K H vs ds → vs[i]? = some v → ∃ d, ds[i]? = some d ∧ Tp K H v d
  | _, _, 0, _, .on a _, e => by cases e; exact ⟨_, rfl, a⟩
  | _, _, i + 1, _, .on _ r, e => TpAll.at (i := i) r e
theorem TpAll.add : ∀ {vs us : List V} {ds es : List PyData}, TpAll K H vs ds → TpAll K H us es → TpAll K H (vs ++ us) (ds ++ es)
  | _, _, _, _, .no, b => b
  | _, _, _, _, .on a r, b => .on a (TpAll.add r b)
theorem TpAll.cut : ∀ {vs : List V} {ds : List PyData} (n : Nat), TpAll K H vs ds → TpAll K H (vs.take n) (ds.take n)
  | _, _, 0, _ => .no
  | _, _, _ + 1, .no => .no
  | _, _, n + 1, .on a r => .on a (TpAll.cut n r)
theorem TpAll.off : ∀ {vs : List V} {ds : List PyData} (n : Nat), TpAll K H vs ds → TpAll K H (vs.drop n) (ds.drop n)
  | _, _, 0, r => r
  | _, _, _ + 1, .no => .no
  | _, _, n + 1, .on _ r => TpAll.off n r
theorem TpAll.ints : ∀ (ns : List Int), TpAll K H (ns.map V.int) (iD ns)
  | [] => .no
  | x :: r => .on (.int x) (TpAll.ints r)
theorem TpAll.isInts : ∀ {vs : List V} {ns : List Int}, TpAll K H vs (iD ns) → vs = ns.map V.int
  | _, [], .no => rfl
  | _, _ :: _, .on (.int _) r => by rw [TpAll.isInts r]; rfl
theorem Tp.ofInts {a : Addr} {ns : List Int} (h : SqT K H a (ns.map V.int)) : Tp K H (.ref a) (.tuple (iD ns)) := .tu h (TpAll.ints ns)
theorem Tp.toInts {v : V} {ns : List Int} (h : Tp K H v (.tuple (iD ns))) : ∃ a, v = .ref a ∧ SqT K H a (ns.map V.int) := by
  cases h with
  | tu h r => exact ⟨_, rfl, by rw [← TpAll.isInts r]; exact h⟩
theorem Tp.toTup {v : V} {ds : List PyData} (h : Tp K H v (.tuple ds)) : ∃ a xs, v = .ref a ∧ SqT K H a xs ∧ TpAll K H xs ds := by
  cases h with
  | tu h r => exact ⟨_, _, rfl, h, r⟩
end
/-! ## lines -/
/-- one to three works -/
structure GoodL (ws : List (List Int)) : Prop where
  least : 1 ≤ ws.length
  few : ws.length ≤ 3
  work : ∀ w ∈ ws, IsWork w
abbrev tD (ns : List Int) : PyData := .tuple (iD ns)
abbrev tDs (ws : List (List Int)) : List PyData := ws.map tD
abbrev cellD (a b : List Int) : PyData := tD (nI (barsN a b))
abbrev rowD (a : List Int) (ws : List (List Int)) : PyData := .tuple (ws.map (cellD a))
abbrev barD (ws : List (List Int)) : List PyData := ws.map fun a => rowD a ws
/-- the bars of all, row by row -/
def rowB (a : List Int) (ws : List (List Int)) : List Int := ws.flatMap fun b => nI (barsN a b)
def allB (ws vs : List (List Int)) : List Int := ws.flatMap fun a => rowB a vs
/-- the greatest, or 0 -/
structure Top (l : List Int) (m : Int) : Prop where
  pos : 0 ≤ m
  le : ∀ x ∈ l, x ≤ m
  eq : m = 0 ∨ m ∈ l
theorem Top.uniq {l k : List Int} {m n : Int} (h : Top l m) (g : Top k n) (e : ∀ x, x ∈ l ↔ x ∈ k) : m = n := by
  have a : m ≤ n := by
    rcases h.eq with z | z
    · rw [z]; exact g.pos
    · exact g.le _ ((e _).mp z)
  have b : n ≤ m := by
    rcases g.eq with z | z
    · rw [z]; exact h.pos
    · exact h.le _ ((e _).mpr z)
  omega
/-! ### the object -/
def lf (t b : Addr) (r : Int) : List (Str × V) := putF "_reach" (.int r) (putF "_bars" (.ref b) (putF "_works" (.ref t) []))
theorem k1 : ¬ (("_works" : Str) = "_bars") := by decide +kernel
theorem k2 : ¬ (("_works" : Str) = "_reach") := by decide +kernel
theorem k3 : ¬ (("_bars" : Str) = "_reach") := by decide +kernel
theorem lf_works (t b : Addr) (r : Int) : (lf t b r).lookup ("_works" : Str) = some (.ref t) := by
  unfold lf
  rw [lookup_putF, if_neg k2, lookup_putF, if_neg k1, lookup_putF, if_pos rfl]
theorem lf_bars (t b : Addr) (r : Int) : (lf t b r).lookup ("_bars" : Str) = some (.ref b) := by
  unfold lf
  rw [lookup_putF, if_neg k3, lookup_putF, if_pos rfl]
theorem lf_reach (t b : Addr) (r : Int) : (lf t b r).lookup ("_reach" : Str) = some (.int r) := by
  unfold lf
  rw [lookup_putF, if_pos rfl]
/-- a Line of these works stands at a -/
def LineAt (K : PySem.W.Frag) (C : Addr) (H : Hp) (a : Addr) (ws : List (List Int)) : Prop :=
  ∃ (dx t b : Addr) (r : Int), H a = some (.ins C dx (lf t b r)) ∧ Tp K H (.ref t) (.tuple (tDs ws)) ∧ Tp K H (.ref b) (.tuple (barD ws)) ∧ Top (allB ws ws) r ∧ GoodL ws
theorem LineAt.ins {K : PySem.W.Frag} {C a : Addr} {H : Hp} {ws : List (List Int)} (h : LineAt K C H a ws) : InsAt H C a := by
  obtain ⟨dx, t, b, r, h1, _⟩ := h
  exact ⟨_, _, h1⟩
theorem LineAt.good {K : PySem.W.Frag} {C a : Addr} {H : Hp} {ws : List (List Int)} (h : LineAt K C H a ws) : GoodL ws := by
  obtain ⟨dx, t, b, r, _, _, _, _, g⟩ := h
  exact g
theorem LineAt.stay {K : PySem.W.Frag} {C a : Addr} {H H' : Hp} {ws : List (List Int)} (e : St K H H') (h : LineAt K C H a ws) : LineAt K C H' a ws := by
  obtain ⟨dx, t, b, r, h1, h2, h3, h4, h5⟩ := h
  exact ⟨dx, t, b, r, e.ob _ _ _ _ h1, h2.stay e, h3.stay e, h4, h5⟩
theorem TpAll.works {K : PySem.W.Frag} {H : Hp} {vs : List V} {ws : List (List Int)} {i : Nat} {v : V} (h : TpAll K H vs (tDs ws)) (e : vs[i]? = some v) : ∃ w a, ws[i]? = some w ∧ v = .ref a ∧ SqT K H a (w.map V.int) := by
  obtain ⟨d, hd, t⟩ := h.at e
  rw [List.getElem?_map] at hd
  obtain ⟨w, hw, rfl⟩ := Option.map_eq_some_iff.mp hd
  obtain ⟨a, rfl, hs⟩ := t.toInts
  exact ⟨w, a, hw, rfl, hs⟩
end Sg

set_option Elab.async false
set_option linter.all false
set_option maxRecDepth 100000
set_option maxHeartbeats 4000000
namespace Sg
open PySem PySem.Spec PyProof.Rows L2
theorem call_tuple_ofK {X : Cx} {K : PySem.W.Frag} (hK : X.K = K) : CallR X (.type "tuple") (fun xs H Q => ∃ p ys, xs = [.ref p] ∧ ((SqL K H p ys ∧ ∀ l, H l = none → Q (.ref l) (upd H l (.tup ys))) ∨ (SqT K H p ys ∧ Q (.ref p) H))) := by
  subst hK; exact call_tuple_of
theorem pi_tupK {X : Cx} {K : PySem.W.Frag} {tg l : Expr} {tl : TE} (hK : X.K = K) (hl : PE X l tl) : PI X tg l (iTup K tl) := by
  subst hK; exact pi_tup hl
/-! ## a list of tuple data that grows -/
def Grow (K : PySem.W.Frag) (H1 : Hp) (D : Addr) (ds : List PyData) (i : Nat) (H' : Hp) : Prop := Same H1 H' ∧ ∃ acc, H' D = some (.lst acc) ∧ TpAll K H' acc (ds.take i)
theorem Grow.zero {K : PySem.W.Frag} {H1 : Hp} {D : Addr} {ds : List PyData} (hD : H1 D = none) : Grow K H1 D ds 0 (upd H1 D (.lst [])) :=
  ⟨same_new hD, [], upd_same, .no⟩
theorem Grow.next {K : PySem.W.Frag} {H1 H' H'' : Hp} {D : Addr} {ds : List PyData} {i : Nat} {d : PyData} {v : V} (hD : H1 D = none) (hz : ds.length ≤ 1000) (h : Grow K H1 D ds i H') (e : Same H' H'') (hd : ds[i]? = some d) (t : Tp K H'' v d) :
    ∃ acc, H'' D = some (.lst acc) ∧ acc.length < sizeLine ∧ Grow K H1 D ds (i + 1) (upd H'' D (.lst (acc ++ [v]))) := by
  obtain ⟨s1, acc, h1, h2⟩ := h
  have hD2 := e _ _ h1
  have st : St K H'' (upd H'' D (.lst (acc ++ [v]))) := .but (.upd) hD2
  refine ⟨acc, hD2, ?_, fun b o q => ?_, _, upd_same, ?_⟩
  · have z := h2.len
    have z2 : i < ds.length := (List.getElem?_eq_some_iff.mp hd).1
    rw [List.length_take] at z
    exact small1000 (by omega)
  · rw [upd_ne (ne_of_none q hD)]
    exact e _ _ (s1 _ _ q)
  · rw [List.take_add_one, hd]
    exact ((h2.stay (.of e)).stay st).add (.on (t.stay st) .no)
theorem Grow.done {K : PySem.W.Frag} {H1 H' : Hp} {D : Addr} {ds : List PyData} {n : Nat} (h : Grow K H1 D ds n H') (hn : n = ds.length) : Same H1 H' ∧ ∃ acc, H' D = some (.lst acc) ∧ TpAll K H' acc ds := by
  obtain ⟨s1, acc, h1, h2⟩ := h
  rw [hn, List.take_length] at h2
  exact ⟨s1, acc, h1, h2⟩
theorem Tp.new {K : PySem.W.Frag} {H : Hp} {l : Addr} {acc : List V} {ds : List PyData} (nl : H l = none) (t : TpAll K H acc ds) : Tp K (upd H l (.tup acc)) (.ref l) (.tuple ds) :=
  .tu (.of upd_same) (t.stay (.of (same_new nl)))
theorem GoodL.mem {ws : List (List Int)} (h : GoodL ws) {i : Nat} {w : List Int} (e : ws[i]? = Option.some w) : IsWork w := h.work w (List.mem_of_getElem? e)
theorem GoodL.lt {ws : List (List Int)} (h : GoodL ws) : (barD ws).length ≤ 1000 := by
  have := h.few
  rw [List.length_map]
  omega
/-- what the class has -/
structure LC (K : PySem.W.Frag) (mg : Str → Option Value) (C : Addr) : Prop where
  cl : Cls K C
  nW : NoAttr K C "_works"
  nB : NoAttr K C "_bars"
  nR : NoAttr K C "_reach"
  mgC : mg "Line" = some (.ref C)
section
variable {P : Program} {w : World} {K : PySem.W.Frag} {mg : Str → Option Value} {base : Heap}
/-! ### len -/
def spLen (K : PySem.W.Frag) (C : Addr) : Sp := fun vs H Q _ => ∃ (a : Addr) (ws : List (List Int)), vs = [.ref a] ∧ LineAt K C H a ws ∧ Q (.int (ws.length : Nat)) H
theorem ok_len {f C : Addr} {fd : FuncData} {k : Nat} (F : Fun K "__len__" "Line.__len__" s_Line_len f fd) (T : LC K mg C) (m1 : mg "len" = none) :
    FnOk P w K mg base CX0 (k + 1) f fd ["self"] (spLen K C) := by
  refine F.ok sc_Line_len (fun vs H Q E h => ?_) (fun cdv A outer s H vs Q E hr h => ?_)
  · obtain ⟨a, ws, rfl, _⟩ := h; rfl
  · obtain ⟨a, ws, rfl, ⟨dx, t, b, r, h1, h2, h3, h4, h5⟩, q⟩ := h
    refine ⟨_, pss_one (ps_ret (pe_callB call_len_seq (by rfl) m1 PySem.boot_len (pa_cons (pe_fld (pv 0) rfl) pa_nil))), ?_⟩
    obtain ⟨t', xs, e, hS, hT⟩ := h2.toTup
    cases e
    refine ⟨.ref a, rfl, a, C, dx, _, _, rfl, h1, T.cl, T.nW, lf_works _ _ _, t, xs, rfl, .inr hS, ?_⟩
    have e := hT.len
    rw [List.length_map] at e
    rw [e]
    exact q
/-! ### is_kind -/
def spIsKind (K : PySem.W.Frag) (C : Addr) : Sp := fun vs H Q _ => ∃ (a : Addr) (ws : List (List Int)) (i : Int), vs = [.ref a, .int i] ∧ LineAt K C H a ws ∧ Q (.bl (decide (0 ≤ i) && decide (i ≤ (ws.length : Nat) - 1))) H
theorem ok_is_kind {f f1 f2 C : Addr} {fd fd1 fd2 : FuncData} {k : Nat} (F : Fun K "is_kind" "is_kind" s_is_kind f fd) (T : LC K mg C) (m1 : mg "len" = none)
    (G1 : FnOk P w K mg base CX0 k f1 fd1 ["thing", "least", "most"] spIsBetween) (kp1 : PySem.W.keepIn K (.ref f1) = true) (b1 : Binds K fd1 ["thing", "least", "most"] []) (g1 : mg "is_between" = some (.ref f1))
    (G2 : FnOk P w K mg base CX0 k f2 fd2 ["self"] (spLen K C)) (b2 : Binds K fd2 ["self"] []) (s2 : PySem.W.findIn K (.ref C) "__len__" = some (some (.ref f2))) (i2 : PySem.W.isFn K (.ref f2) = true) :
    FnOk P w K mg base CX0 (k + 2) f fd ["line", "thing"] (spIsKind K C) := by
  refine F.ok sc_is_kind (fun vs H Q E h => ?_) (fun cdv A outer s H vs Q E hr h => ?_)
  · obtain ⟨a, ws, i, rfl, _⟩ := h; rfl
  · obtain ⟨a, ws, i, rfl, hL, q⟩ := h
    refine ⟨_, pss_one (ps_ret (pe_call G1 (hr.mono (Nat.le_succ k)) (by rfl) g1 kp1 b1 .nil pass0 (pa_cons (pv 1) (pa_cons pe_int (pa_cons (pe_op op_sub (pe_callB (call_lenO G2 hr b2 s2 i2) (by rfl) m1 PySem.boot_len (pa_cons (pv 0) pa_nil)) pe_int) pa_nil))))), ?_⟩
    refine ⟨.int i, rfl, .ref a, rfl, a, rfl, hL.ins, a, ws, rfl, hL, ws.length, rfl, ?_, _, 1, rfl, rfl, i, 0, _, rfl, q⟩
    have := hL.good.few
    omega
def spReqKind (K : PySem.W.Frag) (C : Addr) : Sp := fun vs H Q _ => ∃ (a : Addr) (ws : List (List Int)) (i : Nat), vs = [.ref a, .int i] ∧ LineAt K C H a ws ∧ i < ws.length ∧ Q .non H
theorem ok_require_kind {f f1 C : Addr} {fd fd1 : FuncData} {k : Nat} (F : Fun K "require_kind" "require_kind" s_require_kind f fd)
    (G1 : FnOk P w K mg base CX0 k f1 fd1 ["line", "thing"] (spIsKind K C)) (kp1 : PySem.W.keepIn K (.ref f1) = true) (b1 : Binds K fd1 ["line", "thing"] []) (g1 : mg "is_kind" = some (.ref f1)) :
    FnOk P w K mg base CX0 (k + 1) f fd ["line", "thing"] (spReqKind K C) := by
  refine F.ok sc_require_kind (fun vs H Q E h => ?_) (fun cdv A outer s H vs Q E hr h => ?_)
  · obtain ⟨a, ws, i, rfl, _⟩ := h; rfl
  · obtain ⟨a, ws, i, rfl, hL, hi, q⟩ := h
    refine ⟨_, pss_one (ps_if (pt_not (pt_val (pe_call G1 hr (by rfl) g1 kp1 b1 .nil pass0 (pa_cons (pv 0) (pa_cons (pv 1) pa_nil))))) (pss_one ps_never) pss_nil), ?_⟩
    refine ⟨.ref a, rfl, .int i, rfl, a, ws, i, rfl, hL, ?_⟩
    rw [decide_eq_true (show (0 : Int) ≤ i by omega), decide_eq_true (show (i : Int) ≤ (ws.length : Nat) - 1 by omega)]
    exact ⟨true, rfl, iteF q⟩
/-! ### _bars_of_all -/
def spBarsAll (K : PySem.W.Frag) : Sp := fun vs H Q _ => ∃ (a : Addr) (ws : List (List Int)), vs = [.ref a] ∧ Tp K H (.ref a) (.tuple (tDs ws)) ∧ GoodL ws ∧
  ∀ H' p, Same H H' → Tp K H' (.ref p) (.tuple (barD ws)) → Q (.ref p) H'
theorem ok_bars_of_all {f f1 : Addr} {fd fd1 : FuncData} {k : Nat} (F : Fun K "_bars_of_all" "_bars_of_all" s_bars_of_all f fd) (m1 : mg "tuple" = none)
    (G1 : FnOk P w K mg base CX0 k f1 fd1 ["one", "other"] (spBars K)) (kp1 : PySem.W.keepIn K (.ref f1) = true) (b1 : Binds K fd1 ["one", "other"] []) (g1 : mg "bars" = some (.ref f1)) :
    FnOk P w K mg base CX0 (k + 1) f fd ["works"] (spBarsAll K) := by
  refine F.ok sc_bars_of_all (fun vs H Q E h => ?_) (fun cdv A outer s H vs Q E hr h => ?_)
  · obtain ⟨a, ws, rfl, _⟩ := h; rfl
  · obtain ⟨a, ws, rfl, hW, hg, q⟩ := h
    refine ⟨_, pss_one (ps_ret (pe_callTy call_tuple_of (by rfl) m1 (by decide +kernel) (pa_cons
      (pe_lc (own := [("one", 2)]) (g := gName 2) (tt := tYes) rfl sc_bars_of_all.nd (pi_tup (pv 0)) (blkOk_by (N := ["works", "other", "one"]) (sc := defScope s_bars_of_all) (by decide +kernel))
        (fun _ _ _ _ _ => pg_name (i := 2) sc_bars_of_all.nd rfl (Or.inr rfl)) (fun _ _ _ _ _ => pts_nil)
        (fun s' H' C' cl fp => pe_callTy (call_tuple_ofK (K := K) rfl) (by rfl) m1 (by decide +kernel) (pa_cons
          (pe_lc (own := [("other", 1)]) (g := gName 1) (tt := tYes) rfl sc_bars_of_all.nd (pi_tupK (K := K) rfl (pv 0)) (blkOk_by (by rfl))
            (fun _ _ _ _ _ => pg_name (i := 1) sc_bars_of_all.nd rfl (Or.inl rfl)) (fun _ _ _ _ _ => pts_nil)
            (fun _ _ _ _ _ => pe_call G1 hr (by rfl) g1 kp1 b1 .nil pass0 (pa_cons (pv 2) (pa_cons (pv 1) pa_nil)))) pa_nil))) pa_nil))), ?_⟩
    obtain ⟨a', xs, ea, hS, hT⟩ := hW.toTup
    cases ea
    have hlen := hT.len
    rw [List.length_map] at hlen
    refine ⟨.ref a, rfl, a, rfl, ⟨_, hS⟩, fun D hD => ?_⟩
    refine lc_tup (xs := xs) (fun i H' => Grow K H D (barD ws) i H') (.zero hD) (fun i H' _ h => Same.tup h.1 hS) (fun i x H' hx h => ?_) (fun H' h => ?_)
    · obtain ⟨o, c1, ho, rfl, hc1⟩ := hT.works hx
      have fewr : (ws.map (cellD o)).length ≤ 1000 := by
        have := hg.few
        rw [List.length_map]
        omega
      refine ⟨rfl, ?_⟩
      refine ⟨.ref a, rfl, a, rfl, ⟨_, Same.tup h.1 hS⟩, fun D2 hD2 => ?_⟩
      refine lc_tup (xs := xs) (fun j H2 => Grow K H' D2 (ws.map (cellD o)) j H2) (.zero hD2) (fun i H2 _ h2 => Same.tup (h.1.trans h2.1) hS) (fun j y H2 hy h2 => ?_) (fun H2 h2 => ?_)
      · obtain ⟨o2, c2, ho2, rfl, hc2⟩ := hT.works hy
        refine ⟨rfl, .ref c1, rfl, .ref c2, rfl, c1, c2, o, o2, rfl, Same.tup (h.1.trans h2.1) hc1, Same.tup (h.1.trans h2.1) hc2, hg.mem ho, hg.mem ho2, fun H3 p e3 np hp => ?_⟩
        refine h2.next hD2 fewr e3 (by rw [List.getElem?_map, ho2]; rfl) (.ofInts ?_)
        rw [← nV_eq]
        exact .of hp
      · obtain ⟨e2, acc, g1, g2⟩ := h2.done (by rw [List.length_map, hlen])
        refine ⟨D2, acc, rfl, .inl ⟨.of g1, fun l nl => ?_⟩⟩
        exact h.next hD hg.lt (e2.trans (same_new nl)) (by rw [List.getElem?_map, ho]; rfl) (.new nl g2)
    · obtain ⟨e2, acc, g1, g2⟩ := h.done (by rw [List.length_map, hlen])
      exact ⟨D, acc, rfl, .inl ⟨.of g1, fun l nl => q _ l (e2.trans (same_new nl)) (.new nl g2)⟩⟩
end
end Sg

set_option Elab.async false
set_option linter.all false
set_option maxRecDepth 100000
set_option maxHeartbeats 4000000
namespace Sg
open PySem PySem.Spec PyProof.Rows L2 StX
/-! ## the bars of a line, flat -/
theorem flatL_of {K : PySem.W.Frag} {H : Hp} {a : List Int} : ∀ {cells : List V} {ws : List (List Int)}, TpAll K H cells (ws.map (cellD a)) → FlatL K H cells ((rowB a ws).map V.int)
  | _, [], .no => .nil
  | _, b :: ws, .on t r => by
    obtain ⟨c, rfl, hs⟩ := t.toInts
    show FlatL K H _ ((nI (barsN a b) ++ rowB a ws).map V.int)
    rw [List.map_append]
    exact .cons hs (flatL_of r)
theorem flatR_of {K : PySem.W.Frag} {H : Hp} {vs : List (List Int)} : ∀ {rows : List V} {ws : List (List Int)}, TpAll K H rows (ws.map fun a => rowD a vs) → FlatR K H rows ((allB ws vs).map V.int)
  | _, [], .no => .nil
  | _, b :: ws, .on t r => by
    obtain ⟨c, xs, rfl, hs, ht⟩ := t.toTup
    show FlatR K H _ ((rowB b vs ++ allB ws vs).map V.int)
    rw [List.map_append]
    exact .cons hs (flatL_of ht) (flatR_of r)
theorem bars_le {a b : List Int} (h : IsWork a) : (nI (barsN a b)).length ≤ 60 := by
  rw [List.length_map]
  have := h.most
  exact Nat.le_trans (barsTo_len a b (a.length - 1)) (by omega)
theorem rowB_len {a : List Int} (h : IsWork a) : ∀ (ws : List (List Int)), (rowB a ws).length ≤ 60 * ws.length
  | [] => Nat.le_refl _
  | b :: ws => by
    show (nI (barsN a b) ++ rowB a ws).length ≤ _
    rw [List.length_append, List.length_cons]
    have := bars_le h (b := b)
    have := rowB_len h ws
    omega
theorem allB_len {vs : List (List Int)} : ∀ (ws : List (List Int)), (∀ w ∈ ws, IsWork w) → (allB ws vs).length ≤ 60 * vs.length * ws.length
  | [], _ => Nat.zero_le _
  | b :: ws, h => by
    show (rowB b vs ++ allB ws vs).length ≤ _
    rw [List.length_append, List.length_cons, Nat.mul_succ]
    have := rowB_len (h b List.mem_cons_self) vs
    have := allB_len (vs := vs) ws fun w hw => h w (List.mem_cons_of_mem _ hw)
    omega
theorem mem_allB {ws vs : List (List Int)} {x : Int} : x ∈ allB ws vs ↔ ∃ a ∈ ws, ∃ b ∈ vs, x ∈ nI (barsN a b) := by
  unfold allB rowB
  simp only [List.mem_flatMap]
theorem bar_pos {a b : List Int} {x : Int} (h : x ∈ nI (barsN a b)) : 1 ≤ x := by
  obtain ⟨d, hd, rfl⟩ := List.mem_map.mp h
  have := (List.mem_range'_1.mp (List.mem_filter.mp hd).1).1
  omega
theorem top_of {l : List Int} {m : Int} (hp : ∀ x ∈ l, 1 ≤ x) (h0 : l = [] → m = 0) (h1 : l ≠ [] → m ∈ l ∧ ∀ x ∈ l, x ≤ m) : Top l m := by
  by_cases z : l = []
  · have e := h0 z
    subst z
    exact ⟨by omega, fun x hx => (nomatch hx), .inl e⟩
  · obtain ⟨g1, g2⟩ := h1 z
    exact ⟨by have := hp _ g1; omega, g2, .inr g1⟩
section
variable {P : Program} {w : World} {K : PySem.W.Frag} {mg : Str → Option Value} {base : Heap}
/-! ### __init__ -/
def spInit (K : PySem.W.Frag) (C : Addr) : Sp := fun vs H Q _ => ∃ (x dx : Addr) (rest : List V) (ws : List (List Int)), vs = .ref x :: rest ∧ H x = some (.ins C dx []) ∧ TpAll K H rest (tDs ws) ∧ GoodL ws ∧
  ∀ H', (∀ b o, H b = some o → b ≠ x → H' b = some o) → LineAt K C H' x ws → Q .non H'
theorem ok_init {f f1 f2 C : Addr} {fd fd1 fd2 : FuncData} {k : Nat} (F : Fun K "__init__" "Line.__init__" s_Line_init f fd) (T : LC K mg C) (hM : ∃ t, mg "MOST_WORKS" = some (.int 3 t))
    (G1 : FnOk P w K mg base CX0 k f1 fd1 ["thing"] (spIsWork K)) (kp1 : PySem.W.keepIn K (.ref f1) = true) (b1 : Binds K fd1 ["thing"] []) (g1 : mg "is_work" = some (.ref f1))
    (G2 : FnOk P w K mg base CX0 k f2 fd2 ["works"] (spBarsAll K)) (kp2 : PySem.W.keepIn K (.ref f2) = true) (b2 : Binds K fd2 ["works"] []) (g2 : mg "_bars_of_all" = some (.ref f2))
    (m1 : mg "all" = none) (m2 : mg "len" = none) (m3 : mg "max" = none) : FnR P w K mg base CX0 (k + 1) f (spInit K C) := by
  obtain ⟨tM, nM⟩ := hM
  obtain ⟨oc, od, kV, doc, pm, an, cdv, ct, osl, rfl, lk, hcd⟩ := F.ex
  have R := fn_star (CX := CX0) (P := P) (w := w) (mg := mg) (base := base) (k := k) (ps := ["self"]) (pv := "works") (sp := fun vs H Q _ => ∃ (x dx p : Addr) (rest : List V) (ws : List (List Int)), vs = [.ref x, .ref p] ∧ H x = some (.ins C dx []) ∧ H p = some (.tup rest) ∧ TpAll K H rest (tDs ws) ∧ GoodL ws ∧
    ∀ H', (∀ b o, H b = some o → b ≠ x → H' b = some o) → LineAt K C H' x ws → Q .non H') lk hcd sc_Line_init cxUp_none (bind_star1 (B := fun us => bindArgs (PySem.W.fnOf "__init__" "Line.__init__" (defArgs s_Line_init) (defBody s_Line_init) (defScope s_Line_init) .none kV doc pm an cdv ct) ⟨us, []⟩) (fun _ => rfl) (fun _ _ _ => rfl)) ?_
  · refine R.imp fun vs H Q E h => ?_
    obtain ⟨x, dx, rest, ws, rfl, hx, hT, hg, q⟩ := h
    have hl := hT.len
    have := hg.few
    rw [List.length_map] at hl
    refine ⟨[.ref x], rest, rfl, rfl, Nat.le_of_lt (small1000 (by omega)), fun p np => ⟨x, dx, p, rest, ws, rfl, same_new np _ _ hx, upd_same, hT.stay (.of (same_new np)), hg, fun H' hk hL => q H' (fun b o e hb => hk b o (same_new np _ _ e) hb) hL⟩⟩
  · intro A outer s H vs Q E hr h
    obtain ⟨x, dx, p, rest, ws, rfl, hx, hp, hT, hg, q⟩ := h
    refine ⟨_, pss_cons (ps_if (PW.pt (pw_or (pt_not (pt_truth (pv 1) (fun _ => rfl))) (pw_or1 (pt_not (pt_val (pe_callB (cr_all rfl) (by rfl) m1 (by decide +kernel) (pa_cons
        (pe_lc (own := [("work", 2)]) (g := gName 2) (tt := tYes) rfl sc_Line_init.nd (pi_tup (pv 1)) (blkOk_by (N := ["self", "works", "work", "row", "pair", "bar"]) (sc := defScope s_Line_init) (by decide +kernel))
          (fun _ _ _ _ _ => pg_name (i := 2) sc_Line_init.nd rfl (Or.inl rfl)) (fun _ _ _ _ _ => pts_nil)
          (fun _ _ _ _ _ => pe_call G1 hr (by rfl) g1 kp1 b1 .nil pass0 (pa_cons (pv 2) pa_nil))) pa_nil))))))) (pss_one ps_never) pss_nil)
      (pss_cons (ps_if (pt_cmpR op_gt (pe_callB call_len_seq (by rfl) m2 PySem.boot_len (pa_cons (pv 1) pa_nil)) (pe_glob (v := .int 3) (by rfl) nM ⟨_, rfl⟩) (nomark _)) (pss_one ps_never) pss_nil)
      (pss_cons (ps_fld (pv 0) (pv 1) rfl)
      (pss_cons (ps_fld (pv 0) (pe_call G2 hr (by rfl) g2 kp2 b2 .nil pass0 (pa_cons (pv 1) pa_nil)) rfl)
      (pss_one (ps_fld (pv 0) (pe_callBK (cr_maxD rfl hr) (by rfl) m3 (by decide +kernel) (pa_cons (pe_flat (k1 := 3) (k2 := 4) (k3 := 5) (own := [("row", 3), ("pair", 4), ("bar", 5)]) rfl sc_Line_init.nd (pe_fld (pv 0) rfl)
          (blkOk_by (N := ["self", "works", "work", "row", "pair", "bar"]) (sc := defScope s_Line_init) (by decide +kernel)) rfl rfl rfl (fun _ _ => rfl) (fun _ _ => rfl) (fun _ _ => rfl)) pa_nil) (pk_cons pe_int pk_nil)) rfl))))), ?_⟩
    have hl := hT.len
    rw [List.length_map] at hl
    have hp' : SqT K H p rest := .of hp
    have hemp : (!rest.isEmpty) = true := by
      have := hg.least
      cases rest with
      | nil => rw [← hl] at this; exact absurd this (by decide)
      | cons => rfl
    refine ⟨.ref p, rfl, !rest.isEmpty, .inr (.inl ⟨rest, hp', rfl⟩), ?_⟩
    rw [hemp]
    refine iteF ?_
    refine ⟨.ref p, rfl, p, rfl, ⟨_, hp'⟩, fun D hD => ?_⟩
    refine lc_tup (xs := rest) (fun i H' => Same H H' ∧ H' D = some (.lst (((List.replicate i true)).map V.bl))) ⟨same_new hD, upd_same⟩ (fun i H' _ h => Same.tup h.1 hp') (fun i y H' hy h => ?_) (fun H' h => ?_)
    · obtain ⟨w1, c, hw, rfl, hc⟩ := hT.works hy
      refine ⟨rfl, .ref c, rfl, c, w1, rfl, Same.tup h.1 hc, hg.mem hw, fun H2 e2 => ?_⟩
      refine ⟨_, e2 _ _ h.2, ?_, fun b o e => ?_, ?_⟩
      · rw [List.length_map, List.length_replicate]
        have := hg.few
        have := (List.getElem?_eq_some_iff.mp hw).1
        exact small1000 (by omega)
      · rw [upd_ne (ne_of_none e hD)]
        exact e2 _ _ (h.1 _ _ e)
      · rw [upd_same, List.replicate_succ', List.map_append]
        rfl
    · have hall : (List.replicate rest.length true).all id = true := by simp
      refine ⟨D, _, rfl, .of h.2, true, congrArg V.bl hall, iteF ?_⟩
      have hpH : SqT K H' p rest := Same.tup h.1 hp'
      refine ⟨.ref p, rfl, p, rest, rfl, .inr hpH, _, 3, rfl, rfl, _, rfl, ?_⟩
      have c3 : decide ((((rest.length : Nat) : Int)) > 3) = false := decide_eq_false (by have := hg.few; omega)
      rw [c3]
      refine iteF ?_
      have hx1 := h.1 _ _ hx
      refine ⟨.ref p, rfl, .ref x, rfl, x, C, dx, [], rfl, hx1, T.cl, T.nW, (by show 0 < 1000; decide), ?_⟩
      have hW1 : Tp K H' (.ref p) (.tuple (tDs ws)) := .tu hpH (hT.stay (.of h.1))
      have hW2 := hW1.stayT (tu_ins hx1 (o := .ins C dx (putF "_works" (.ref p) [])))
      generalize hH2 : upd H' x (.ins C dx (putF "_works" (.ref p) [])) = H2 at hW2 ⊢
      have hx2 : H2 x = some (.ins C dx (putF "_works" (.ref p) [])) := by rw [← hH2]; exact upd_same
      refine ⟨.ref p, rfl, p, ws, rfl, hW2, hg, fun H3 b e3 hb => ?_⟩
      have hx3 := e3 _ _ hx2
      refine ⟨.ref x, rfl, x, C, dx, _, rfl, hx3, T.cl, T.nB, (by show 1 < 1000; decide), ?_⟩
      have hW4 := (hW2.stay (.of e3)).stayT (tu_ins hx3 (o := .ins C dx (putF "_bars" (.ref b) (putF "_works" (.ref p) []))))
      have hB4 := hb.stayT (tu_ins hx3 (o := .ins C dx (putF "_bars" (.ref b) (putF "_works" (.ref p) []))))
      generalize hH4 : upd H3 x (.ins C dx (putF "_bars" (.ref b) (putF "_works" (.ref p) []))) = H4 at hW4 hB4 ⊢
      have hx4 : H4 x = some (.ins C dx (putF "_bars" (.ref b) (putF "_works" (.ref p) []))) := by rw [← hH4]; exact upd_same
      obtain ⟨b', rows, eb, hbS, hbT⟩ := hB4.toTup
      cases eb
      have lb : (putF "_bars" (.ref b) (putF "_works" (.ref p) [])).lookup ("_bars" : Str) = some (.ref b) := by rw [lookup_putF, if_pos rfl]
      have lenB : ((allB ws ws).map V.int).length ≤ 1000000 := by
        rw [List.length_map]
        have z := allB_len (vs := ws) ws hg.work
        have := hg.few
        have z2 : 60 * ws.length * ws.length ≤ 60 * 3 * 3 := Nat.mul_le_mul (Nat.mul_le_mul (Nat.le_refl _) this) this
        omega
      refine ⟨.ref x, rfl, x, C, dx, _, _, rfl, hx4, T.cl, T.nB, lb, b, rows, _, rfl, hbS, flatR_of hbT, lenB, fun D2 nD2 => ?_⟩
      have s5 : Same H4 (upd H4 D2 (.lst ((allB ws ws).map V.int))) := same_new nD2
      refine ⟨D2, allB ws ws, 0, rfl, rfl, .of upd_same, fun m h0 h1 => ?_⟩
      have hx5 := s5 _ _ hx4
      refine ⟨.ref x, rfl, x, C, dx, _, rfl, hx5, T.cl, T.nR, (by show 2 < 1000; decide), ?_⟩
      have hW6 := (hW4.stay (.of s5)).stayT (tu_ins hx5 (o := .ins C dx (lf p b m)))
      have hB6 := (hB4.stay (.of s5)).stayT (tu_ins hx5 (o := .ins C dx (lf p b m)))
      refine q _ (fun c o e hc => ?_) ⟨dx, p, b, m, upd_same, hW6, hB6, top_of (fun y hy => ?_) h0 h1, hg⟩
      · rw [upd_ne hc]
        refine s5 _ _ ?_
        rw [← hH4, upd_ne hc]
        refine e3 _ _ ?_
        rw [← hH2, upd_ne hc]
        exact h.1 _ _ e
      · obtain ⟨_, _, _, _, z⟩ := mem_allB.mp hy
        exact bar_pos z
end
end Sg

set_option Elab.async false
set_option linter.all false
set_option maxRecDepth 100000
set_option maxHeartbeats 4000000
namespace Sg
open PySem PySem.Spec PyProof.Rows L2 StX
/-! ## data compared -/
theorem eqv_ints : ∀ (xs ys : List Int), PyData.eqvAll (iD xs) (iD ys) = decide (xs = ys)
  | [], [] => by simp [PyData.eqvAll]
  | [], _ :: _ => by simp [PyData.eqvAll]
  | _ :: _, [] => by simp [PyData.eqvAll]
  | x :: xs, y :: ys => by
    show PyData.eqvAll (.int x :: iD xs) (.int y :: iD ys) = _
    rw [PyData.eqvAll, eqv_ints xs ys, PyData.eqv]
    by_cases h : x = y
    · subst h; simp
    · simp [h]
theorem eqv_tD (xs ys : List Int) : PyData.eqv (tD xs) (tD ys) = decide (xs = ys) := by
  show PyData.eqv (.tuple (iD xs)) (.tuple (iD ys)) = _
  rw [PyData.eqv, eqv_ints]
theorem eqv_tDs : ∀ (xs ys : List (List Int)), PyData.eqvAll (tDs xs) (tDs ys) = decide (xs = ys)
  | [], [] => by simp [PyData.eqvAll]
  | [], _ :: _ => by simp [PyData.eqvAll]
  | _ :: _, [] => by simp [PyData.eqvAll]
  | x :: xs, y :: ys => by
    show PyData.eqvAll (tD x :: tDs xs) (tD y :: tDs ys) = _
    rw [PyData.eqvAll, eqv_tDs xs ys, eqv_tD]
    by_cases h : x = y
    · subst h; simp
    · simp [h]
theorem lay_iD : ∀ (xs : List Int), PyData.canLayAll0 (iD xs) = true
  | [] => by simp [PyData.canLayAll0]
  | x :: r => by
    show PyData.canLayAll0 (.int x :: iD r) = true
    rw [PyData.canLayAll0, lay_iD r, PyData.canLay0]; rfl
theorem dep_iD : ∀ (xs : List Int), PyData.depthAll (iD xs) = 0
  | [] => by simp [PyData.depthAll]
  | x :: r => by
    show PyData.depthAll (.int x :: iD r) = 0
    rw [PyData.depthAll, dep_iD r, PyData.depth]; rfl
theorem shaped_tD (xs : List Int) : SeqAt.shaped (tD xs) = true := by
  unfold SeqAt.shaped
  have a : (tD xs).canLay0 = true := by show PyData.canLay0 (.tuple (iD xs)) = true; rw [PyData.canLay0, lay_iD]
  have b : (tD xs).depth ≤ 64 := by show PyData.depth (.tuple (iD xs)) ≤ 64; rw [PyData.depth, dep_iD]; decide
  rw [a, decide_eq_true b]; rfl
theorem lay_tDs : ∀ (xs : List (List Int)), PyData.canLayAll0 (tDs xs) = true
  | [] => by simp [PyData.canLayAll0]
  | x :: r => by
    show PyData.canLayAll0 (.tuple (iD x) :: tDs r) = true
    rw [PyData.canLayAll0, lay_tDs r, PyData.canLay0, lay_iD]; rfl
theorem dep_tDs : ∀ (xs : List (List Int)), PyData.depthAll (tDs xs) ≤ 1
  | [] => by simp [PyData.depthAll]
  | x :: r => by
    show PyData.depthAll (.tuple (iD x) :: tDs r) ≤ 1
    rw [PyData.depthAll, PyData.depth, dep_iD]
    exact Nat.max_le.mpr ⟨Nat.le_refl _, dep_tDs r⟩
theorem shaped_tDs (xs : List (List Int)) : SeqAt.shaped (.tuple (tDs xs)) = true := by
  unfold SeqAt.shaped
  have a : (PyData.tuple (tDs xs)).canLay0 = true := by rw [PyData.canLay0, lay_tDs]
  have b : (PyData.tuple (tDs xs)).depth ≤ 64 := by rw [PyData.depth]; have := dep_tDs xs; omega
  rw [a, decide_eq_true b]; rfl
/-! ## a Line is made -/
theorem make_line {K : PySem.W.Frag} {C : Addr} {H1 : Hp} {vs : List V} {ws : List (List Int)} {Q : VK} (hT : TpAll K H1 vs (tDs ws)) (hg : GoodL ws)
    (q : ∀ H' a, Same H1 H' → H1 a = none → LineAt K C H' a ws → Q (.ref a) H') :
    ∀ x dx, H1 x = none → H1 dx = none → dx ≠ x → spInit K C (V.ref x :: vs) (upd (upd H1 dx (.own x)) x (.ins C dx [])) (fun v H2 => v = .non ∧ Q (.ref x) H2) E0 := by
  intro x dx nx ndx ne
  have s0 : Same H1 (upd (upd H1 dx (.own x)) x (.ins C dx [])) := fun b o e => by
    rw [upd_ne (ne_of_none e nx), upd_ne (ne_of_none e ndx)]
    exact e
  exact ⟨x, dx, vs, ws, rfl, upd_same, hT.stay (.of s0), hg, fun H' hk hL => ⟨rfl, q H' x (fun b o e => hk b o (s0 b o e) (ne_of_none e nx)) nx hL⟩⟩
/-- C(*e) -/
theorem pe_makeS {X : Cx} {CX : CXT} {k : Nat} {f C : Addr} {sp : Sp} {E : XK} {x : Str} {e : Expr} {te : TE} {p pos sp_ : Pos} (M : Mk X.K C f) (F : FnR X.prog X.w X.K X.mg X.base CX k f sp) (hr : Room (k + 1) X.A)
    (hg : Gl X x) (hm : X.mg x = some (.ref C)) (hx : Passes CX X E) (he : PE X e te) (hd : (x == ("__debug__" : Str)) = false := by decide) (hst : starEach [.Starred e sp_] X.env = [(true, eval e X.env)] := by rfl) :
    PE X (.Call (.Name x p) [.Starred e sp_] [] pos) (fun σ H Q => te σ H fun y H1 => ∃ a xs, y = V.ref a ∧ (SqT X.K H1 a xs ∨ SqL X.K H1 a xs) ∧
      ∀ z dz, H1 z = none → H1 dz = none → dz ≠ z → sp (V.ref z :: xs) (upd (upd H1 dz (.own z)) z (.ins C dz [])) (fun v H2 => v = .non ∧ Q (.ref z) H2) E) := by
  refine ⟨fun pins s σ H Q I h => wpAny_Call_Name_kw (ld_glob I hg hm ?_ hd)⟩
  refine PySem.W.callWith_S (h₀ := X.base) I.ok.mod.kin M.kp (thn (he.run pins s σ H _ I h) fun v s1 ⟨y, H1, I1, ry, a, xs, ey, hxs, q⟩ => ?_) hst
  subst ey
  obtain rfl : v = Value.ref a := ry
  exact star_any I1 hxs fun us s2 I2 rv => ⟨I2.kIn, run_makeR M F hr hx I2 rv q⟩
theorem GoodL.back {ws : List (List Int)} (h : GoodL ws) : GoodL (ws.map List.reverse) := by
  refine ⟨by rw [List.length_map]; exact h.least, by rw [List.length_map]; exact h.few, fun w hw => ?_⟩
  obtain ⟨v, hv, rfl⟩ := List.mem_map.mp hw
  have i := h.work v hv
  refine ⟨by rw [List.length_reverse]; exact i.pos, by rw [List.length_reverse]; exact i.most, fun x hx => i.items x (List.mem_reverse.mp hx), fun x hx => ?_, fun x hx => ?_⟩
  · have := i.pos
    rw [List.getElem?_reverse (by omega)] at hx
    exact i.last x (by rw [← hx]; congr 1)
  · have := i.pos
    rw [List.length_reverse, List.getElem?_reverse (by omega)] at hx
    exact i.head x (by rw [← hx]; congr 1; omega)
theorem cut_upto (xs : List V) (d : Nat) : cutV xs none (some (d : Int)) = xs.take d := by
  unfold cutV
  rw [HT.sIx_nat, HT.sIx_none, List.drop_zero, Nat.sub_zero]
  rcases Nat.le_total d xs.length with h | h
  · rw [Nat.min_eq_left h]
  · rw [Nat.min_eq_right h, List.take_of_length_le h, List.take_length]
end Sg

set_option Elab.async false
set_option linter.all false
set_option maxRecDepth 100000
set_option maxHeartbeats 4000000
namespace Sg
open PySem PySem.Spec PyProof.Rows L2 StX
/-- what isinstance asks of the class -/
structure LI (K : PySem.W.Frag) (C : Addr) : Prop where
  ha : PySem.W.findIn K (.ref C) "__class__" = some (some (.builtin "object.__class__"))
  hn : PySem.W.specialIn K (.builtin "object.__class__") "__get__" = some (some (.builtin "getset_descriptor.__get__"))
  ht : PySem.W.takesIn K (.builtin "object.__class__") = some true
  hm : PySem.W.mroIn K C (.type "object") = some true
  kit : PySem.W.kitOne K (.ref C) (.ref C) = some true
section
variable {P : Program} {w : World} {K : PySem.W.Frag} {mg : Str → Option Value} {base : Heap}
theorem isLine {C a : Addr} {H : Hp} {ws : List (List Int)} (c : Cls K C) (T : LI K C) (h : LineAt K C H a ws) : TyX K H (.ref a) (.ref C) := by
  obtain ⟨dx, t, b, r, h1, _⟩ := h
  exact .base (.ins h1 c T.ha T.hn T.ht T.hm)
/-! ### line(one, other) -/
def spCall (K : PySem.W.Frag) (C : Addr) : Sp := fun vs H Q _ => ∃ (a : Addr) (ws : List (List Int)) (i j : Nat) (x y : List Int), vs = [.ref a, .int i, .int j] ∧ LineAt K C H a ws ∧ ws[i]? = some x ∧ ws[j]? = some y ∧
  ∀ c, SqT K H c (nV (barsN x y)) → Q (.ref c) H
theorem ok_call {f f1 C : Addr} {fd fd1 : FuncData} {k : Nat} (F : Fun K "__call__" "Line.__call__" s_Line_call f fd) (T : LC K mg C)
    (G1 : FnOk P w K mg base CX0 k f1 fd1 ["line", "thing"] (spReqKind K C)) (kp1 : PySem.W.keepIn K (.ref f1) = true) (b1 : Binds K fd1 ["line", "thing"] []) (g1 : mg "require_kind" = some (.ref f1)) :
    FnOk P w K mg base CX0 (k + 1) f fd ["self", "one", "other"] (spCall K C) := by
  refine F.ok sc_Line_call (fun vs H Q E h => ?_) (fun cdv A outer s H vs Q E hr h => ?_)
  · obtain ⟨a, ws, i, j, x, y, rfl, _⟩ := h; rfl
  · obtain ⟨a, ws, i, j, x, y, rfl, hL, hx, hy, q⟩ := h
    refine ⟨_, pss_cons (ps_expr (pe_call G1 hr (by rfl) g1 kp1 b1 .nil pass0 (pa_cons (pv 0) (pa_cons (pv 1) pa_nil))))
      (pss_cons (ps_expr (pe_call G1 hr (by rfl) g1 kp1 b1 .nil pass0 (pa_cons (pv 0) (pa_cons (pv 2) pa_nil))))
      (pss_one (ps_ret (pe_ix ix_tup (pe_ix ix_tup (pe_fld (pv 0) rfl) (pv 1) (fun _ _ => rfl)) (pv 2) (fun _ _ => rfl))))), ?_⟩
    have hi := (List.getElem?_eq_some_iff.mp hx).1
    have hj := (List.getElem?_eq_some_iff.mp hy).1
    refine ⟨.ref a, rfl, .int i, rfl, a, ws, i, rfl, hL, hi, .ref a, rfl, .int j, rfl, a, ws, j, rfl, hL, hj, ?_⟩
    obtain ⟨dx, t, b, r, h1, h2, h3, h4, h5⟩ := hL
    obtain ⟨b', rows, eb, hS, hT⟩ := h3.toTup
    cases eb
    have lr := hT.len
    rw [List.length_map] at lr
    obtain ⟨ro, hro⟩ : ∃ ro, rows[i]? = some ro := ⟨rows[i]'(by omega), List.getElem?_eq_getElem _⟩
    obtain ⟨d, hd, tr⟩ := hT.at hro
    rw [List.getElem?_map, hx] at hd
    cases hd
    obtain ⟨b2, cells, rfl, hS2, hT2⟩ := tr.toTup
    have lc := hT2.len
    rw [List.length_map] at lc
    obtain ⟨ce, hce⟩ : ∃ ce, cells[j]? = some ce := ⟨cells[j]'(by omega), List.getElem?_eq_getElem _⟩
    obtain ⟨d, hd, tc⟩ := hT2.at hce
    rw [List.getElem?_map, hy] at hd
    cases hd
    obtain ⟨c, rfl, hc⟩ := tc.toInts
    refine ⟨.ref a, rfl, a, C, dx, _, _, rfl, h1, T.cl, T.nB, lf_bars _ _ _, .int i, rfl, b, rows, i, .ref b2, rfl, rfl, hS, atI_nat hro, ?_⟩
    refine ⟨.int j, rfl, b2, cells, j, .ref c, rfl, rfl, hS2, atI_nat hce, q c ?_⟩
    rw [nV_eq]
    exact hc
/-! ### one == other -/
def spEq (K : PySem.W.Frag) (C : Addr) : Sp := fun vs H Q _ => ∃ (a b : Addr) (ws us : List (List Int)), vs = [.ref a, .ref b] ∧ LineAt K C H a ws ∧ LineAt K C H b us ∧ Q (.bl (decide (ws = us))) H
theorem ok_eq {f C : Addr} {fd : FuncData} {k : Nat} (F : Fun K "__eq__" "Line.__eq__" s_Line_eq f fd) (T : LC K mg C) (I : LI K C) (m1 : mg "isinstance" = none) :
    FnOk P w K mg base CX0 (k + 1) f fd ["self", "other"] (spEq K C) := by
  refine F.ok sc_Line_eq (fun vs H Q E h => ?_) (fun cdv A outer s H vs Q E hr h => ?_)
  · obtain ⟨a, b, ws, us, rfl, _⟩ := h; rfl
  · obtain ⟨a, b, ws, us, rfl, hL, hR, q⟩ := h
    have hu := hr.units
    refine ⟨_, pss_one (ps_ret (pe_and (pe_callB call_isi (by rfl) m1 (by decide +kernel) (pa_cons (pv 1) (pa_cons (pe_glob (v := .ref C) (by rfl) T.mgC rfl) pa_nil)))
      (pe_one (pe_cmpR (op_eqD hu) (pe_fld (pv 0) rfl) (pe_fld (pv 1) rfl) (nomark _))))), ?_⟩
    refine ⟨.ref b, rfl, .ref b, .ref C, .ref C, .ref C, true, rfl, .own C, isLine T.cl I hR, I.kit, ?_⟩
    obtain ⟨dx, t, b1, r, h1, h2, h3, h4, h5⟩ := hL
    obtain ⟨dx', t', b1', r', h1', h2', h3', h4', h5'⟩ := hR
    refine ⟨true, rfl, iteT ?_⟩
    refine ⟨.ref a, rfl, a, C, dx, _, _, rfl, h1, T.cl, T.nW, lf_works _ _ _, .ref b, rfl, b, C, dx', _, _, rfl, h1', T.cl, T.nW, lf_works _ _ _, _, _, h2.dp, h2'.dp, shaped_tDs _, shaped_tDs _, ?_⟩
    rw [show PyData.eqv (.tuple (tDs ws)) (.tuple (tDs us)) = decide (ws = us) from by rw [PyData.eqv, eqv_tDs]]
    exact q
end
end Sg

set_option Elab.async false
set_option linter.all false
set_option maxRecDepth 100000
set_option maxHeartbeats 4000000
namespace Sg
open PySem PySem.Spec PyProof.Rows L2 StX
section
variable {P : Program} {w : World} {K : PySem.W.Frag} {mg : Str → Option Value} {base : Heap}
theorem GoodL.plus {ws us : List (List Int)} (h : GoodL ws) (g : GoodL us) (hl : ws.length + us.length ≤ 3) : GoodL (ws ++ us) := by
  refine ⟨by have := h.least; rw [List.length_append]; omega, by rw [List.length_append]; exact hl, fun w hw => ?_⟩
  rcases List.mem_append.mp hw with z | z
  · exact h.work w z
  · exact g.work w z
theorem GoodL.less {ws : List (List Int)} (h : GoodL ws) {i : Nat} (hi : i < ws.length) (h2 : 2 ≤ ws.length) : GoodL (ws.take i ++ ws.drop (i + 1)) := by
  have := h.few
  refine ⟨by rw [List.length_append, List.length_take, List.length_drop]; omega, by rw [List.length_append, List.length_take, List.length_drop]; omega, fun w hw => ?_⟩
  rcases List.mem_append.mp hw with z | z
  · exact h.work w (List.mem_of_mem_take z)
  · exact h.work w (List.mem_of_mem_drop z)
/-! ### one + other -/
def spAdd (K : PySem.W.Frag) (C : Addr) : Sp := fun vs H Q _ => ∃ (a b : Addr) (ws us : List (List Int)), vs = [.ref a, .ref b] ∧ LineAt K C H a ws ∧ LineAt K C H b us ∧ ws.length + us.length ≤ 3 ∧
  ∀ H' x, Same H H' → H x = none → LineAt K C H' x (ws ++ us) → Q (.ref x) H'
theorem ok_add {f f1 C : Addr} {fd : FuncData} {k : Nat} (F : Fun K "__add__" "Line.__add__" s_Line_add f fd) (T : LC K mg C) (I : LI K C) (M : Mk K C f1) (G : FnR P w K mg base CX0 k f1 (spInit K C)) (m1 : mg "isinstance" = none) :
    FnOk P w K mg base CX0 (k + 2) f fd ["self", "other"] (spAdd K C) := by
  refine F.ok sc_Line_add (fun vs H Q E h => ?_) (fun cdv A outer s H vs Q E hr h => ?_)
  · obtain ⟨a, b, ws, us, rfl, _⟩ := h; rfl
  · obtain ⟨a, b, ws, us, rfl, hL, hR, hl, q⟩ := h
    refine ⟨_, pss_cons (ps_if (pt_not (pt_val (pe_callB call_isi (by rfl) m1 (by decide +kernel) (pa_cons (pv 1) (pa_cons (pe_glob (v := .ref C) (by rfl) T.mgC rfl) pa_nil))))) (pss_one ps_never) pss_nil)
      (pss_cons (ps_set (i := 2) sc_Line_add.nd rfl (Or.inl rfl) (pe_op op_catA (pe_fld (pv 0) rfl) (pe_fld (pv 1) rfl)))
      (pss_one (ps_ret (pe_makeS M G hr (by rfl) T.mgC pass0 (pv 2))))), ?_⟩
    refine ⟨.ref b, rfl, .ref b, .ref C, .ref C, .ref C, true, rfl, .own C, isLine T.cl I hR, I.kit, true, rfl, iteF ?_⟩
    obtain ⟨dx, t, b1, r, h1, h2, h3, h4, h5⟩ := id hL
    obtain ⟨dx', t', b1', r', h1', h2', h3', h4', h5'⟩ := id hR
    obtain ⟨_, xs, e, hS, hT⟩ := h2.toTup
    cases e
    obtain ⟨_, ys, e, hS', hT'⟩ := h2'.toTup
    cases e
    have l1 := hT.len
    have l2 := hT'.len
    rw [List.length_map] at l1 l2
    have p1 := h5.least
    have p2 := h5'.least
    refine ⟨.ref a, rfl, a, C, dx, _, _, rfl, h1, T.cl, T.nW, lf_works _ _ _, .ref b, rfl, b, C, dx', _, _, rfl, h1', T.cl, T.nW, lf_works _ _ _, t, t', xs, ys, rfl, rfl, hS, hS', Nat.le_of_lt (small1000 (by omega)),
      (fun z => ?_), (fun _ z => ?_), (fun _ _ p np => ?_)⟩
    · rw [z] at l1; rw [← l1] at p1; exact absurd p1 (by decide)
    · rw [z] at l2; rw [← l2] at p2; exact absurd p2 (by decide)
    · refine ⟨.ref p, rfl, p, xs ++ ys, rfl, .inl (.of upd_same), ?_⟩
      have st : St K H (upd H p (.tup (xs ++ ys))) := .of (same_new np)
      refine make_line (ws := ws ++ us) ?_ (h5.plus h5' hl) (fun H' x e3 nx hLx => ?_)
      · have z := (hT.stay st).add (hT'.stay st)
        rw [← List.map_append] at z
        exact z
      · exact q H' x ((same_new np).trans e3) (Same.free (same_new np) nx) hLx
/-! ### line - kind -/
def spSub (K : PySem.W.Frag) (C : Addr) : Sp := fun vs H Q _ => ∃ (a : Addr) (ws : List (List Int)) (i : Nat), vs = [.ref a, .int i] ∧ LineAt K C H a ws ∧ i < ws.length ∧ 2 ≤ ws.length ∧
  ∀ H' x, Same H H' → H x = none → LineAt K C H' x (ws.take i ++ ws.drop (i + 1)) → Q (.ref x) H'
theorem ok_sub {f f1 f2 C : Addr} {fd fd2 : FuncData} {k : Nat} (F : Fun K "__sub__" "Line.__sub__" s_Line_sub f fd) (T : LC K mg C) (M : Mk K C f1) (G : FnR P w K mg base CX0 k f1 (spInit K C))
    (G2 : FnOk P w K mg base CX0 k f2 fd2 ["line", "thing"] (spReqKind K C)) (kp2 : PySem.W.keepIn K (.ref f2) = true) (b2 : Binds K fd2 ["line", "thing"] []) (g2 : mg "require_kind" = some (.ref f2)) (m1 : mg "len" = none) :
    FnOk P w K mg base CX0 (k + 2) f fd ["self", "other"] (spSub K C) := by
  refine F.ok sc_Line_sub (fun vs H Q E h => ?_) (fun cdv A outer s H vs Q E hr h => ?_)
  · obtain ⟨a, ws, i, rfl, _⟩ := h; rfl
  · obtain ⟨a, ws, i, rfl, hL, hi, h2w, q⟩ := h
    refine ⟨_, pss_cons (ps_expr (pe_call G2 (hr.mono (Nat.le_succ k)) (by rfl) g2 kp2 b2 .nil pass0 (pa_cons (pv 0) (pa_cons (pv 1) pa_nil))))
      (pss_cons (ps_if (pt_cmpR op_eq (pe_callB call_len_seq (by rfl) m1 PySem.boot_len (pa_cons (pe_fld (pv 0) rfl) pa_nil)) pe_int (nomark _)) (pss_one ps_never) pss_nil)
      (pss_cons (ps_set (i := 2) sc_Line_sub.nd rfl (Or.inl rfl) (pe_op op_catA (pe_slice sl_tup (pe_fld (pv 0) rfl) po_none (po_some (pv 1))) (pe_slice sl_tup (pe_fld (pv 0) rfl) (po_some (pe_op op_add (pv 1) pe_int)) po_none)))
      (pss_one (ps_ret (pe_makeS M G hr (by rfl) T.mgC pass0 (pv 2)))))), ?_⟩
    refine ⟨.ref a, rfl, .int i, rfl, a, ws, i, rfl, hL, hi, ?_⟩
    obtain ⟨dx, t, b1, r, h1, h2, h3, h4, h5⟩ := id hL
    obtain ⟨_, xs, e, hS, hT⟩ := h2.toTup
    cases e
    have l1 := hT.len
    rw [List.length_map] at l1
    have few := h5.few
    refine ⟨.ref a, rfl, a, C, dx, _, _, rfl, h1, T.cl, T.nW, lf_works _ _ _, t, xs, rfl, .inr hS, rfl, ?_⟩
    have c1 : decide (V.int ((xs.length : Nat) : Int) = V.int 1) = false := decide_eq_false fun z => by have := V.int.inj z; omega
    rw [c1]
    refine ⟨false, rfl, iteF ?_⟩
    have w1 : ¬ (HT.sIx xs.length 0 none = 0 ∧ HT.sIx xs.length xs.length (some (i : Int)) = xs.length) := by
      rintro ⟨_, z⟩
      rw [HT.sIx_nat] at z
      omega
    refine ⟨.ref a, rfl, a, C, dx, _, _, rfl, h1, T.cl, T.nW, lf_works _ _ _, .int i, rfl, i, rfl, t, xs, rfl, hS, w1, fun p np => ?_⟩
    have s1 : Same H (upd H p (.tup (cutV xs none (some (i : Int))))) := same_new np
    have e1 : ((i : Int) + 1) = ((i + 1 : Nat) : Int) := by omega
    have w2 : ¬ (HT.sIx xs.length 0 (some ((i : Int) + 1)) = 0 ∧ HT.sIx xs.length xs.length none = xs.length) := by
      rintro ⟨z, _⟩
      rw [e1, HT.sIx_nat] at z
      omega
    have hp1 : (upd H p (.tup (cutV xs none (some (i : Int))))) p = some (.tup (xs.take i)) := by rw [upd_same, cut_upto]
    generalize hH1 : upd H p (.tup (cutV xs none (some (i : Int)))) = H1 at s1 hp1 ⊢
    refine ⟨.ref a, rfl, a, C, dx, _, _, rfl, s1 _ _ h1, T.cl, T.nW, lf_works _ _ _, .int i, rfl, i, 1, rfl, rfl, (i : Int) + 1, rfl, t, xs, rfl, Same.tup s1 hS, w2, fun p2 np2 => ?_⟩
    have s2 : Same H1 (upd H1 p2 (.tup (cutV xs (some ((i : Int) + 1)) none))) := same_new np2
    have hp2 : (upd H1 p2 (.tup (cutV xs (some ((i : Int) + 1)) none))) p2 = some (.tup (xs.drop (i + 1))) := by rw [upd_same, e1, cut_from]
    generalize hH2 : upd H1 p2 (.tup (cutV xs (some ((i : Int) + 1)) none)) = H2 at s2 hp2 ⊢
    have hp1' := s2 _ _ hp1
    have s12 := s1.trans s2
    have tt : TpAll K H (xs.take i ++ xs.drop (i + 1)) (tDs (ws.take i ++ ws.drop (i + 1))) := by
      have z := (hT.cut i).add (hT.off (i + 1))
      rw [← List.map_take, ← List.map_drop, ← List.map_append] at z
      exact z
    have fin : ∀ (H3 : Hp) (l : Addr), Same H H3 → SqT K H3 l (xs.take i ++ xs.drop (i + 1)) →
        ∃ a' xs', V.ref l = V.ref a' ∧ (SqT K H3 a' xs' ∨ SqL K H3 a' xs') ∧ ∀ z dz, H3 z = none → H3 dz = none → dz ≠ z → spInit K C (V.ref z :: xs') (upd (upd H3 dz (.own z)) z (.ins C dz [])) (fun v H2 => v = .non ∧ Q (.ref z) H2) E0 := by
      intro H3 l e3 hl
      refine ⟨l, _, rfl, .inl hl, make_line (ws := ws.take i ++ ws.drop (i + 1)) (tt.stay (.of e3)) (h5.less hi h2w) fun H' x e4 nx hLx => q H' x (e3.trans e4) (Same.free e3 nx) hLx⟩
    have len2 : (xs.take i).length + (xs.drop (i + 1)).length ≤ sizeLine := by
      rw [List.length_take, List.length_drop]
      exact Nat.le_of_lt (small1000 (by omega))
    refine ⟨p, p2, _, _, rfl, rfl, .of hp1', .of hp2, len2, (fun z => ?_), (fun _ z => ?_), (fun _ _ p3 np3 => ?_)⟩
    · refine ⟨.ref p2, rfl, fin H2 p2 s12 ?_⟩
      rw [z, List.nil_append]
      exact .of hp2
    · refine ⟨.ref p, rfl, fin H2 p s12 ?_⟩
      rw [z, List.append_nil]
      exact .of hp1'
    · exact ⟨.ref p3, rfl, fin _ p3 (s12.trans (same_new np3)) (.of upd_same)⟩
/-! ### -line -/
def spNeg (K : PySem.W.Frag) (C : Addr) : Sp := fun vs H Q _ => ∃ (a : Addr) (ws : List (List Int)), vs = [.ref a] ∧ LineAt K C H a ws ∧
  ∀ H' x, Same H H' → H x = none → LineAt K C H' x (ws.map List.reverse) → Q (.ref x) H'
theorem ok_neg {f f1 C : Addr} {fd : FuncData} {k : Nat} (F : Fun K "__neg__" "Line.__neg__" s_Line_neg f fd) (T : LC K mg C) (M : Mk K C f1) (G : FnR P w K mg base CX0 k f1 (spInit K C)) :
    FnOk P w K mg base CX0 (k + 2) f fd ["self"] (spNeg K C) := by
  refine F.ok sc_Line_neg (fun vs H Q E h => ?_) (fun cdv A outer s H vs Q E hr h => ?_)
  · obtain ⟨a, ws, rfl, _⟩ := h; rfl
  · obtain ⟨a, ws, rfl, hL, q⟩ := h
    refine ⟨_, pss_cons (ps_setLc (i := 1) (own := [("work", 2)]) (g := gName 2) (tt := tYes) rfl sc_Line_neg.nd rfl rfl (sw_true rfl rfl rfl (by decide +kernel)) (pi_tup (pe_fld (pv 0) rfl))
          (blkOk_by (N := ["self", "works", "work"]) (sc := defScope s_Line_neg) (by decide +kernel))
          (fun _ _ _ _ _ => pg_name (i := 2) sc_Line_neg.nd rfl (Or.inl rfl)) (fun _ _ _ _ _ => pts_nil) (fun _ _ _ _ _ => pe_revT (K := K) rfl (pv 2)))
      (pss_one (ps_ret (pe_makeS M G hr (by rfl) T.mgC pass0 (pv 1)))), ?_⟩
    obtain ⟨dx, t, b1, r, h1, h2, h3, h4, h5⟩ := id hL
    obtain ⟨_, xs, e, hS, hT⟩ := h2.toTup
    cases e
    have l1 := hT.len
    rw [List.length_map] at l1
    have few := h5.few
    have lz : (tDs (ws.map List.reverse)).length ≤ 1000 := by rw [List.length_map, List.length_map]; omega
    refine ⟨.ref a, rfl, a, C, dx, _, _, rfl, h1, T.cl, T.nW, lf_works _ _ _, t, rfl, ⟨_, hS⟩, fun D hD => ?_⟩
    refine lc_tup (xs := xs) (fun i H' => Grow K H D (tDs (ws.map List.reverse)) i H') (.zero hD) (fun i H' _ h => Same.tup h.1 hS) (fun i x H' hx h => ?_) (fun H' h => ?_)
    · obtain ⟨o, c1, ho, rfl, hc1⟩ := hT.works hx
      refine ⟨rfl, .ref c1, rfl, c1, _, rfl, Same.tup h.1 hc1, fun p np => ?_⟩
      refine h.next hD lz (same_new np) (d := tD o.reverse) (by rw [List.getElem?_map, List.getElem?_map, ho]; rfl) (.ofInts ?_)
      rw [List.map_reverse]
      exact .of upd_same
    · obtain ⟨e2, acc, g1, g2⟩ := h.done (by rw [List.length_map, List.length_map, l1])
      exact ⟨.ref D, rfl, D, acc, rfl, .inr (.of g1), make_line (ws := ws.map List.reverse) g2 h5.back fun H3 x e3 nx hLx => q H3 x (e2.trans e3) (Same.free e2 nx) hLx⟩
end
end Sg

set_option Elab.async false
set_option linter.all false
set_option maxRecDepth 100000
set_option maxHeartbeats 4000000
namespace Sg
open PySem PySem.Spec PyProof.Rows L2 StX
/-- what a class has under a name: a def that keeps sp -/
structure Has (P : Program) (w : World) (K : PySem.W.Frag) (mg : Str → Option Value) (base : Heap) (k : Nat) (C : Addr) (n : Str) (f : Addr) (fd : FuncData) (ps : List Str) (sp : Sp) : Prop where
  ok : FnOk P w K mg base CX0 k f fd ps sp
  bi : Binds K fd ps []
  at_ : PySem.W.findIn K (.ref C) n = some (some (.ref f))
  fn : PySem.W.isFn K (.ref f) = true
/-- what the operators ask of the class beside their defs -/
structure Ops (K : PySem.W.Frag) (C : Addr) : Prop where
  sf : PySem.W.selfFirst K C = true
  rs : ∃ rc, PySem.W.findIn K (.ref C) "__rsub__" = some rc ∧ (rc = none ∨ ∃ g : Addr, rc = some (.ref g))
  is : ∃ fo, PySem.W.findIn K (.type "int") "__sub__" = some fo
  ir : ∃ ro, PySem.W.findIn K (.type "int") "__rsub__" = some ro
  nsub : PySem.W.subIn K (.type "int") (.ref C) = some false
  ne : PySem.W.findIn K (.ref C) "__ne__" = some (some (.builtin "object.__ne__"))
  ob : PySem.W.subIn K (.ref C) (.type "object") = some true
/-- Line's methods, as they are promised -/
structure Meths (P : Program) (w : World) (K : PySem.W.Frag) (mg : Str → Option Value) (base : Heap) (k : Nat) (C : Addr) : Prop where
  lc : LC K mg C
  li : LI K C
  op : Ops K C
  len : ∃ f fd, Has P w K mg base k C "__len__" f fd ["self"] (spLen K C)
  call : ∃ f fd, Has P w K mg base k C "__call__" f fd ["self", "one", "other"] (spCall K C) ∧ PySem.W.fnIn K f = true
  add : ∃ f fd, Has P w K mg base k C "__add__" f fd ["self", "other"] (spAdd K C)
  sub : ∃ f fd, Has P w K mg base k C "__sub__" f fd ["self", "other"] (spSub K C)
  neg : ∃ f fd, Has P w K mg base k C "__neg__" f fd ["self"] (spNeg K C)
  eq : ∃ f fd, Has P w K mg base k C "__eq__" f fd ["self", "other"] (spEq K C)
  works : ∃ p g fd, PropOf K C "works" p g ∧ FnOk P w K mg base CX0 k g fd ["self"] (getSp C "_works") ∧ Binds K fd ["self"] []
  init : ∃ f, Mk K C f ∧ FnR P w K mg base CX0 k f (spInit K C)
section
variable {X : Cx} {k : Nat} {C : Addr}
theorem Meths.cLen (M : Meths X.prog X.w X.K X.mg X.base k C) (hr : Room (k + 2) X.A) : CallR X (.builtin "len") (fun xs H Q => ∃ a ws, xs = [.ref a] ∧ LineAt X.K C H a ws ∧ Q (.int (ws.length : Nat)) H) := by
  obtain ⟨f, fd, h⟩ := M.len
  intro pins s σ H xs us Q I r q
  obtain ⟨a, ws, rfl, hL, q⟩ := q
  refine call_lenO h.ok (hr.mono (Nat.le_succ _)) h.bi h.at_ h.fn pins s σ H _ us Q I r ⟨a, rfl, hL.ins, a, ws, rfl, hL, ws.length, rfl, ?_, q⟩
  have := hL.good.few
  omega
theorem Meths.oAdd (M : Meths X.prog X.w X.K X.mg X.base k C) (hr : Room (k + 2) X.A) : OpR X (binaryOp .Add) (fun x y H Q => ∃ a b ws us, x = .ref a ∧ y = .ref b ∧ LineAt X.K C H a ws ∧ LineAt X.K C H b us ∧ ws.length + us.length ≤ 3 ∧
    ∀ H' z, Same H H' → H z = none → LineAt X.K C H' z (ws ++ us) → Q (.ref z) H') := by
  obtain ⟨f, fd, h⟩ := M.add
  intro pins s σ H x y v u Q I rx ry q
  obtain ⟨a, b, ws, us, rfl, rfl, h1, h2, h3, q⟩ := q
  exact op_own (op := .Add) h.ok (hr.mono (Nat.le_add_right _ _)) h.bi h.at_ h.fn M.op.sf pins s σ H _ _ v u Q I rx ry ⟨a, b, rfl, rfl, h1.ins, h2.ins, a, b, ws, us, rfl, h1, h2, h3, q⟩
theorem Meths.oSub (M : Meths X.prog X.w X.K X.mg X.base k C) (hr : Room (k + 2) X.A) : OpR X (binaryOp .Sub) (fun x y H Q => ∃ a ws, ∃ i : Nat, x = .ref a ∧ y = .int i ∧ LineAt X.K C H a ws ∧ i < ws.length ∧ 2 ≤ ws.length ∧
    ∀ H' z, Same H H' → H z = none → LineAt X.K C H' z (ws.take i ++ ws.drop (i + 1)) → Q (.ref z) H') := by
  obtain ⟨f, fd, h⟩ := M.sub
  intro pins s σ H x y v u Q I rx ry q
  obtain ⟨a, ws, i, rfl, rfl, h1, h2, h3, q⟩ := q
  obtain ⟨rc, r1, r2⟩ := M.op.rs
  obtain ⟨fo, r3⟩ := M.op.is
  obtain ⟨ro, r4⟩ := M.op.ir
  exact op_ownI (op := .Sub) h.ok (hr.mono (Nat.le_add_right _ _)) h.bi h.at_ h.fn M.op.sf r1 r2 r3 r4 M.op.nsub pins s σ H _ _ v u Q I rx ry ⟨a, i, rfl, rfl, h1.ins, a, ws, i, rfl, h1, h2, h3, q⟩
theorem Meths.uNeg (M : Meths X.prog X.w X.K X.mg X.base k C) (hr : Room (k + 2) X.A) : UnR X (unaryOp .USub) (fun x H Q => ∃ a ws, x = .ref a ∧ LineAt X.K C H a ws ∧
    ∀ H' z, Same H H' → H z = none → LineAt X.K C H' z (ws.map List.reverse) → Q (.ref z) H') := by
  obtain ⟨f, fd, h⟩ := M.neg
  intro pins s σ H x v Q I rx q
  obtain ⟨a, ws, rfl, h1, q⟩ := q
  exact un_own h.ok (hr.mono (Nat.le_add_right _ _)) h.bi h.at_ h.fn pins s σ H _ v Q I rx ⟨a, rfl, h1.ins, a, ws, rfl, h1, q⟩
theorem Meths.oEq (M : Meths X.prog X.w X.K X.mg X.base k C) (hr : Room (k + 2) X.A) : OpR X (compareOp .Eq) (fun x y H Q => ∃ a b ws us, x = .ref a ∧ y = .ref b ∧ LineAt X.K C H a ws ∧ LineAt X.K C H b us ∧ Q (.bl (decide (ws = us))) H) := by
  obtain ⟨f, fd, h⟩ := M.eq
  intro pins s σ H x y v u Q I rx ry q
  obtain ⟨a, b, ws, us, rfl, rfl, h1, h2, q⟩ := q
  exact op_ownEq h.ok (hr.mono (Nat.le_add_right _ _)) h.bi h.at_ h.fn pins s σ H _ _ v u Q I rx ry ⟨a, b, rfl, rfl, h1.ins, h2.ins, a, b, ws, us, rfl, h1, h2, q⟩
theorem Meths.oNe (M : Meths X.prog X.w X.K X.mg X.base k C) (hr : Room (k + 2) X.A) : OpR X (compareOp .NotEq) (fun x y H Q => ∃ a b ws us, x = .ref a ∧ y = .ref b ∧ LineAt X.K C H a ws ∧ LineAt X.K C H b us ∧ Q (.bl (!decide (ws = us))) H) := by
  obtain ⟨f, fd, h⟩ := M.eq
  intro pins s σ H x y v u Q I rx ry q
  obtain ⟨a, b, ws, us, rfl, rfl, h1, h2, q⟩ := q
  exact op_ownNe h.ok hr h.bi h.at_ h.fn M.op.ne M.op.ob pins s σ H _ _ v u Q I rx ry ⟨a, b, rfl, rfl, h1.ins, h2.ins, a, b, ws, us, rfl, h1, h2, _, rfl, q⟩
def tWorks (K : PySem.W.Frag) (C : Addr) (te : TE) : TE := fun σ H Q => te σ H fun x H1 => ∃ a ws, x = .ref a ∧ LineAt K C H1 a ws ∧ ∀ t, Tp K H1 (.ref t) (.tuple (tDs ws)) → Q (.ref t) H1
def tReach (K : PySem.W.Frag) (C : Addr) (te : TE) : TE := fun σ H Q => te σ H fun x H1 => ∃ a ws, x = .ref a ∧ LineAt K C H1 a ws ∧ ∀ r, Top (allB ws ws) r → Q (.int r) H1
theorem Meths.pWorks {K : PySem.W.Frag} {e : Expr} {te : TE} {pos : Pos} (M : Meths X.prog X.w K X.mg X.base k C) (hK : X.K = K) (hr : Room (k + 2) X.A) (he : PE X e te) (hab : attributeBase e "works" X.env (eval e X.env) = eval e X.env := by rfl) :
    PE X (.Attribute e "works" pos) (tWorks K C te) := by
  subst hK
  obtain ⟨p, g, fd, h1, h2, h3⟩ := M.works
  refine ⟨fun pins s σ H Q I h => attr_of hab (thn (he.run pins s σ H _ I h) fun u s1 ⟨x, H1, I1, rx, a, ws, ex, ea, q⟩ => ?_)⟩
  subst ex
  obtain rfl : u = Value.ref a := rx
  obtain ⟨dx, t, b, r, g1, g2, g3, g4, g5⟩ := ea
  exact getprop_ok I1 g1 M.lc.cl h1 h2 (hr.mono (Nat.le_succ _)) h3 .nil pass0 ⟨a, dx, _, _, rfl, g1, lf_works _ _ _, q t g2⟩
def tCallL (K : PySem.W.Frag) (C : Addr) (tf : TE) (t : TA) : TE := fun σ H Q => tf σ H fun y H1 => ∃ a, y = V.ref a ∧ t σ H1 fun vs H2 => ∃ ws, ∃ i j : Nat, ∃ x y, vs = [.int i, .int j] ∧ LineAt K C H2 a ws ∧ ws[i]? = some x ∧ ws[j]? = some y ∧
  ∀ c, SqT K H2 c (nV (barsN x y)) → Q (.ref c) H2
theorem Meths.pCall {K : PySem.W.Frag} {fe e : Expr} {es : List Expr} {tf : TE} {t : TA} {pos : Pos} (M : Meths X.prog X.w K X.mg X.base k C) (hK : X.K = K) (hr : Room (k + 2) X.A) (hf : PE X fe tf) (ha : PA X (e :: es) t)
    (ht : eval (.Call fe (e :: es) [] pos) X.env = (do callWith pos (← eval fe X.env) [] (backTo pos (starEach (e :: es) X.env)) (backToKw pos (keywordEach [] X.env))) := by rfl)
    (he : starEach (e :: es) X.env = (false, eval e X.env) :: starEach es X.env := by rfl) (hpl : (backTo pos (starEach es X.env)).any (·.1) = false := by rfl) :
    PE X (.Call fe (e :: es) [] pos) (tCallL K C tf t) := by
  subst hK
  obtain ⟨g, fd, h, hg⟩ := M.call
  have c : CallO X.K C g := ⟨h.at_, h.fn, hg⟩
  refine ⟨fun pins s σ H Q I h' => Call_ (thn (hf.run pins s σ H _ I h') fun u s1 ⟨y, H1, I1, ry, a, ey, q⟩ => ?_) ht⟩
  subst ey
  obtain rfl : u = Value.ref a := ry
  refine callO_with (thn (ha.run pos pins s1 σ H1 _ I1 q) fun us s2 ⟨vs, H2, I2, r, ws, i, j, x, y, ev, hL, hx, hy, q2⟩ => ?_) he hpl
  subst ev
  have hi' : InsC X H2 a C := .inr hL.ins
  obtain ⟨ox, od, J, hd⟩ := insC_at I2 hi'
  exact ⟨⟨C, ox, od, J, hd⟩, run_callO c (fnR_of h.ok h.bi) (hr.mono (Nat.le_add_right _ _)) pass0 I2 hi' r ⟨a, ws, i, j, x, y, rfl, hL, hx, hy, q2⟩⟩
/-- Line(e, ..) -/
def tNewL (K : PySem.W.Frag) (C : Addr) (t : TA) : TE := fun σ H Q => t σ H fun vs H1 => ∃ ws, TpAll K H1 vs (tDs ws) ∧ GoodL ws ∧ ∀ H' a, Same H1 H' → H1 a = none → LineAt K C H' a ws → Q (.ref a) H'
theorem Meths.pNew {K : PySem.W.Frag} {e : Expr} {es : List Expr} {t : TA} {p pos : Pos} (M : Meths X.prog X.w K X.mg X.base k C) (hK : X.K = K) (hr : Room (k + 2) X.A) (hg : Gl X "Line") (ha : PA X (e :: es) t)
    (he : starEach (e :: es) X.env = (false, eval e X.env) :: starEach es X.env := by rfl) (hpl : (backTo pos (starEach es X.env)).any (·.1) = false := by rfl) : PE X (.Call (.Name "Line" p) (e :: es) [] pos) (tNewL K C t) := by
  subst hK
  obtain ⟨f, m, h⟩ := M.init
  refine ⟨fun pins s σ H Q I h' => ?_⟩
  refine wpAny_Call_Name_kw (ld_glob I hg M.lc.mgC ?_ (by decide))
  refine PySem.W.callWith_K (h₀ := X.base) I.ok.mod.kin m.kp (thn (ha.run pos pins s σ H _ I h') fun us s1 ⟨vs, H1, I1, r, ws, hT, hgd, q⟩ => ⟨I1.kIn, ?_⟩) he hpl
  exact run_makeR m h (hr.mono (Nat.le_succ _)) pass0 I1 r (make_line hT hgd q)
end
end Sg

set_option Elab.async false
set_option linter.all false
set_option maxRecDepth 100000
set_option maxHeartbeats 4000000
namespace Sg
open PySem PySem.Spec PyProof.Rows L2 StX
/-! ## plans -/
abbrev startD (s : Int × Nat) : PyData := .tuple [.int s.1, .int s.2]
abbrev planD (ps : List (Int × Nat)) : List PyData := ps.map startD
/-- the least tick that may follow the first i starts -/
def leastAt (ps : List (Int × Nat)) (i : Nat) : Int := match ps[i - 1]? with
  | none => 0
  | some s => if i = 0 then 0 else s.1 + 1
theorem leastAt_zero (ps : List (Int × Nat)) : leastAt ps 0 = 0 := by
  unfold leastAt
  split <;> rfl
theorem leastAt_succ {ps : List (Int × Nat)} {i : Nat} {s : Int × Nat} (h : ps[i]? = some s) : leastAt ps (i + 1) = s.1 + 1 := by
  unfold leastAt
  rw [Nat.add_sub_cancel, h]
  show (if i + 1 = 0 then (0 : Int) else s.1 + 1) = s.1 + 1
  rw [if_neg (Nat.succ_ne_zero i)]
/-- a plan of a line of n works -/
structure GoodP (n : Nat) (ps : List (Int × Nat)) : Prop where
  few : ps.length ≤ 60
  kinds : ∀ s ∈ ps, s.2 < n
  asc : ∀ (i : Nat) (s : Int × Nat), ps[i]? = some s → leastAt ps i ≤ s.1
section
variable {P : Program} {w : World} {K : PySem.W.Frag} {mg : Str → Option Value} {base : Heap}
def spReqLine (K : PySem.W.Frag) (C : Addr) : Sp := fun vs H Q _ => ∃ (a : Addr) (ws : List (List Int)), vs = [.ref a] ∧ LineAt K C H a ws ∧ Q .non H
theorem ok_require_line {f C : Addr} {fd : FuncData} {k : Nat} (F : Fun K "require_line" "require_line" s_require_line f fd) (T : LC K mg C) (I : LI K C) (m1 : mg "isinstance" = none) :
    FnOk P w K mg base CX0 (k + 1) f fd ["thing"] (spReqLine K C) := by
  refine F.ok sc_require_line (fun vs H Q E h => ?_) (fun cdv A outer s H vs Q E hr h => ?_)
  · obtain ⟨a, ws, rfl, _⟩ := h; rfl
  · obtain ⟨a, ws, rfl, hL, q⟩ := h
    refine ⟨_, pss_one (ps_if (pt_not (pt_val (pe_callB call_isi (by rfl) m1 (by decide +kernel) (pa_cons (pv 0) (pa_cons (pe_glob (v := .ref C) (by rfl) T.mgC rfl) pa_nil))))) (pss_one ps_never) pss_nil), ?_⟩
    exact ⟨.ref a, rfl, .ref a, .ref C, .ref C, .ref C, true, rfl, .own C, isLine T.cl I hL, I.kit, true, rfl, iteF q⟩
end
end Sg

set_option Elab.async false
set_option linter.all false
set_option maxRecDepth 100000
set_option maxHeartbeats 4000000
namespace Sg
open PySem PySem.Spec PyProof.Rows L2 StX
/-- a whole number as it is written -/
def num (i : Int) : Str := toString i
def word (n : Nat) : Str := (("Line(" : Str) ++ num n) ++ (" works)" : Str)
section
variable {P : Program} {w : World} {K : PySem.W.Frag} {mg : Str → Option Value} {base : Heap}
/-! ### line[kind] -/
def spItem (K : PySem.W.Frag) (C : Addr) : Sp := fun vs H Q _ => ∃ (a : Addr) (ws : List (List Int)) (i : Nat) (x : List Int), vs = [.ref a, .int i] ∧ LineAt K C H a ws ∧ ws[i]? = some x ∧ ∀ c, SqT K H c (x.map V.int) → Q (.ref c) H
theorem ok_item {f f1 C : Addr} {fd fd1 : FuncData} {k : Nat} (F : Fun K "__getitem__" "Line.__getitem__" s_Line_getitem f fd) (T : LC K mg C)
    (G1 : FnOk P w K mg base CX0 k f1 fd1 ["line", "thing"] (spReqKind K C)) (kp1 : PySem.W.keepIn K (.ref f1) = true) (b1 : Binds K fd1 ["line", "thing"] []) (g1 : mg "require_kind" = some (.ref f1)) :
    FnOk P w K mg base CX0 (k + 1) f fd ["self", "at"] (spItem K C) := by
  refine F.ok sc_Line_getitem (fun vs H Q E h => ?_) (fun cdv A outer s H vs Q E hr h => ?_)
  · obtain ⟨a, ws, i, x, rfl, _⟩ := h; rfl
  · obtain ⟨a, ws, i, x, rfl, hL, hx, q⟩ := h
    refine ⟨_, pss_cons (ps_expr (pe_call G1 hr (by rfl) g1 kp1 b1 .nil pass0 (pa_cons (pv 0) (pa_cons (pv 1) pa_nil))))
      (pss_one (ps_ret (pe_ix ix_tup (pe_fld (pv 0) rfl) (pv 1) (fun _ _ => rfl)))), ?_⟩
    have hi := (List.getElem?_eq_some_iff.mp hx).1
    refine ⟨.ref a, rfl, .int i, rfl, a, ws, i, rfl, hL, hi, ?_⟩
    obtain ⟨dx, t, b, r, h1, h2, h3, h4, h5⟩ := hL
    obtain ⟨_, xs, e, hS, hT⟩ := h2.toTup
    cases e
    have l := hT.len
    rw [List.length_map] at l
    obtain ⟨y, hy⟩ : ∃ y, xs[i]? = some y := ⟨xs[i]'(by omega), List.getElem?_eq_getElem _⟩
    obtain ⟨x', c, hx', rfl, hc⟩ := hT.works hy
    obtain rfl : x = x' := Option.some.inj (hx.symm.trans hx')
    exact ⟨.ref a, rfl, a, C, dx, _, _, rfl, h1, T.cl, T.nW, lf_works _ _ _, .int i, rfl, t, xs, i, .ref c, rfl, rfl, hS, atI_nat hy, q c hc⟩
/-! ### repr -/
def spRepr (K : PySem.W.Frag) (C : Addr) : Sp := fun vs H Q _ => ∃ (a : Addr) (ws : List (List Int)), vs = [.ref a] ∧ LineAt K C H a ws ∧ Q (.str (word ws.length)) H
theorem word_join (n : Nat) (h1 : 1 ≤ n) (h2 : n ≤ 3) : ((Str.empty ++ ("Line(" : Str)) ++ num n) ++ (" works)" : Str) = word n := by
  have : n = 1 ∨ n = 2 ∨ n = 3 := by omega
  rcases this with rfl | rfl | rfl <;> decide +kernel
theorem num_len (n : Nat) (h1 : 1 ≤ n) (h2 : n ≤ 3) : ((Str.empty ++ ("Line(" : Str)) ++ num n).length ≤ 100 ∧ (((Str.empty ++ ("Line(" : Str)) ++ num n) ++ (" works)" : Str)).length ≤ 100 := by
  have : n = 1 ∨ n = 2 ∨ n = 3 := by omega
  rcases this with rfl | rfl | rfl <;> decide +kernel
theorem log_small (n : Nat) (h2 : n ≤ 3) : ((n : Int)).natAbs.log2 < 1920 := by
  have : n = 0 ∨ n = 1 ∨ n = 2 ∨ n = 3 := by omega
  rcases this with rfl | rfl | rfl | rfl <;> decide +kernel
theorem ok_repr {f C : Addr} {fd : FuncData} {k : Nat} (F : Fun K "__repr__" "Line.__repr__" s_Line_repr f fd) (T : LC K mg C) (m1 : mg "len" = none) :
    FnOk P w K mg base CX0 (k + 1) f fd ["self"] (spRepr K C) := by
  refine F.ok sc_Line_repr (fun vs H Q E h => ?_) (fun cdv A outer s H vs Q E hr h => ?_)
  · obtain ⟨a, ws, rfl, _⟩ := h; rfl
  · obtain ⟨a, ws, rfl, ⟨dx, t, b, r, h1, h2, h3, h4, h5⟩, q⟩ := h
    refine ⟨_, pss_one (ps_ret (pe_joined (.cons pe_str (.cons (pe_fmt (pe_callB call_len_seq (by rfl) m1 PySem.boot_len (pa_cons (pe_fld (pv 0) rfl) pa_nil))) (.cons pe_str .nil))))), ?_⟩
    obtain ⟨t', xs, e, hS, hT⟩ := h2.toTup
    cases e
    have l := hT.len
    rw [List.length_map] at l
    have big : 100 ≤ sizeLine := by rw [sizeLine_eq]; decide
    obtain ⟨z1, z2⟩ := num_len ws.length h5.least h5.few
    refine ⟨_, rfl, Nat.le_trans (by decide +kernel) big, ?_⟩
    refine ⟨.ref a, rfl, a, C, dx, _, _, rfl, h1, T.cl, T.nW, lf_works _ _ _, t, xs, rfl, .inr hS, ?_⟩
    rw [l]
    refine .inr ⟨((ws.length : Nat) : Int), rfl, log_small _ h5.few, ?_⟩
    refine ⟨_, rfl, Nat.le_trans z1 big, ?_⟩
    refine ⟨_, rfl, Nat.le_trans z2 big, ?_⟩
    have e := word_join ws.length h5.least h5.few
    show Q (.str (((Str.empty ++ ("Line(" : Str)) ++ num ws.length) ++ (" works)" : Str))) H
    rw [e]
    exact q
end
/-- the two more -/
structure Meths2 (P : Program) (w : World) (K : PySem.W.Frag) (mg : Str → Option Value) (base : Heap) (k : Nat) (C : Addr) : Prop where
  m : Meths P w K mg base k C
  item : ∃ f fd, Has P w K mg base k C "__getitem__" f fd ["self", "at"] (spItem K C) ∧ PySem.W.fnIn K f = true
  rep : ∃ f fd, Has P w K mg base k C "__repr__" f fd ["self"] (spRepr K C)
section
variable {X : Cx} {k : Nat} {C : Addr}
theorem Meths2.cRepr (M : Meths2 X.prog X.w X.K X.mg X.base k C) (hr : Room (k + 2) X.A) : CallR X (.builtin "repr") (fun xs H Q => ∃ a ws, xs = [.ref a] ∧ LineAt X.K C H a ws ∧ Q (.str (word ws.length)) H) := by
  obtain ⟨f, fd, h⟩ := M.rep
  intro pins s σ H xs us Q I r q
  obtain ⟨a, ws, rfl, hL, q⟩ := q
  obtain ⟨u, rfl, rfl⟩ := vals1 r
  obtain ⟨m, hF⟩ := I.fr
  obtain ⟨_, _, J⟩ := insAt_look I hL.ins
  refine PySem.W.repr_K (show X.A.in1.units < cLine from (hr.mono (show k + 1 ≤ k + 2 by omega)).in1.units0) hF I.ok.mod.kin J h.at_ h.fn (thn (run_in1 (Q := fun v H' => v = .str (word ws.length) ∧ Q (.str (word ws.length)) H') (us := [.ref a]) (vs := [.ref a]) h.ok (hr.mono (Nat.le_succ _)) h.bi I (.cons rfl .nil) ⟨a, ws, rfl, hL, rfl, q⟩) ?_)
  rintro v s' ⟨x, H', I', rx, rfl, q'⟩
  obtain ⟨t, rfl⟩ := rx
  exact ⟨.str _, H', I', ⟨_, rfl⟩, q'⟩
def tItem (K : PySem.W.Frag) (C : Addr) (ta tb : TE) : TE := fun σ H Q => ta σ H fun y H1 => tb σ H1 fun z H2 => ∃ a ws, ∃ i : Nat, ∃ x, y = .ref a ∧ z = .int i ∧ LineAt K C H2 a ws ∧ ws[i]? = some x ∧ ∀ c, SqT K H2 c (x.map V.int) → Q (.ref c) H2
theorem Meths2.pItem {K : PySem.W.Frag} {a b : Expr} {ta tb : TE} {pos : Pos} (M : Meths2 X.prog X.w K X.mg X.base k C) (hK : X.K = K) (hr : Room (k + 2) X.A) (ha : PE X a ta) (hb : PE X b tb)
    (hsl : ∀ x i, subscripted b true (.ref x) i = runValue (.builtin "lifetime.subscript" ⟨[.ref x, i], []⟩) := by intro _ _; rfl) : PE X (.Subscript a b pos) (tItem K C ta tb) := by
  subst hK
  obtain ⟨f, fd, h, hf⟩ := M.item
  refine ⟨fun pins s σ H Q I h' => Subscript_ (binT ha hb I h' fun v u s2 x y H2 I2 rx ry q => ?_)⟩
  obtain ⟨o, ws, i, z, rfl, rfl, hL, hz, q⟩ := q
  obtain rfl : v = Value.ref o := rx
  obtain ⟨m, hF⟩ := I2.fr
  obtain ⟨_, _, J⟩ := insAt_look I2 hL.ins
  exact PySem.W.sub_K hF I2.ok.mod.kin J h.at_ hf h.fn (run_in1 (us := [.ref o, u]) (vs := [.ref o, .int i]) h.ok (hr.mono (Nat.le_succ _)) h.bi I2 (.cons rfl (.cons ry .nil)) ⟨o, ws, i, z, rfl, hL, hz, q⟩) (hsl _ _)
end
end Sg

set_option Elab.async false
set_option linter.all false
set_option maxRecDepth 100000
set_option maxHeartbeats 4000000
namespace Sg
open PySem PySem.Spec PyProof.Rows L2 StX
theorem tup_upd {K : PySem.W.Frag} {H : Hp} {p a : Addr} {xs : List V} {u o : HO} (hp : H p = some u) (hu : ∀ ys, HO.tup ys ≠ u) (hv : ∀ ob ys, HO.frz ob (.tup ys) ≠ u) (h : SqT K H a xs) : SqT K (upd H p o) a xs := by
  rcases h with (h | ⟨ob, h⟩) | h
  · exact .inl (.inl (by rw [upd_ne (ne_of h hp (hu _))]; exact h))
  · exact .inl (.inr ⟨ob, by rw [upd_ne (ne_of h hp (hv _ _))]; exact h⟩)
  · exact .inr h
theorem tup_new {K : PySem.W.Frag} {H : Hp} {p a : Addr} {xs : List V} {o : HO} (hp : H p = none) (h : SqT K H a xs) : SqT K (upd H p o) a xs := Same.tup (same_new hp) h
theorem call_reprV {X : Cx} {j : Nat} (hgd : X.A.guards = some []) (hr : Room j X.A) :
    CallR X (.builtin "repr") (fun xs H Q => (∃ a d, xs = [.ref a] ∧ Dp X.K H (.ref a) d ∧ Shows d ∧ Q (.str d.shown) H) ∨ (xs = [.non] ∧ Q (.str "None") H)) := by
  intro pins s σ H xs us Q I r h
  rcases h with h | ⟨rfl, q⟩
  · exact call_reprD hgd hr pins s σ H xs us Q I r h
  · obtain ⟨u, rfl, rx⟩ := vals1 r
    obtain rfl : u = Value.none := rx
    exact PySem.P.repr_of_none ⟨.str "None", H, I.tok _, ⟨_, rfl⟩, q⟩
section
variable {P : Program} {w : World} {K : PySem.W.Frag} {mg : Str → Option Value} {base : Heap}
/-! ### _law_same -/
def spSame3 (K : PySem.W.Frag) : Sp := fun vs H Q _ => ((∃ (a b : Addr) (d : PyData), vs = [.ref a, .ref b] ∧ Dp K H (.ref a) d ∧ Dp K H (.ref b) d ∧ Shows d) ∨ vs = [.non, .non]) ∧ Q (.bl true) H
theorem ok_same3 {f : Addr} {fd : FuncData} {k : Nat} (F : Fun K "_law_same" "_law_same" s_l_same f fd) (m1 : mg "repr" = none) :
    FnG P w K mg base (k + 1) f fd ["_law_found", "_law_due"] (spSame3 K) := by
  refine fnG_mk F sc_l_same (fun vs H Q h => ?_) (fun cdv A outer s H vs Q hg hr h => ?_)
  · obtain ⟨⟨a, b, d, rfl, _⟩ | rfl, _⟩ := h <;> rfl
  · refine ⟨_, pss_one (ps_ret (pe_cmpR op_eq (pe_callB (call_reprV hg hr) (by rfl) m1 (by decide +kernel) (pa_cons (pv 0) pa_nil))
      (pe_callB (call_reprV hg hr) (by rfl) m1 (by decide +kernel) (pa_cons (pv 1) pa_nil)) (nomark _))), ?_⟩
    obtain ⟨⟨a, b, d, rfl, h1, h2, hd⟩ | rfl, q⟩ := h
    · refine ⟨.ref a, rfl, .inl ⟨a, d, rfl, h1, hd, .ref b, rfl, .inl ⟨b, d, rfl, h2, hd, rfl, ?_⟩⟩⟩
      rw [decide_eq_true rfl]
      exact q
    · refine ⟨.non, rfl, .inr ⟨rfl, .non, rfl, .inr ⟨rfl, rfl, ?_⟩⟩⟩
      rw [decide_eq_true rfl]
      exact q
/-! ### _law_pick -/
def spPick : Sp := fun vs H Q _ => ∃ (p l : Addr) (ns : List Int), vs = [.ref p, .ref l] ∧ PenAt H p ∧ l ≠ p ∧ H l = some (.lst (ns.map V.int)) ∧ 0 < ns.length ∧ ns.length < 1000000 ∧
  ∀ H' n, n ∈ ns → PenAt H' p → But p H H' → Q (.int n) H'
theorem ok_pick {f f1 : Addr} {fd fd1 : FuncData} {k : Nat} (F : Fun K "_law_pick" "_law_pick" s_l_pick f fd)
    (G1 : FnOk P w K mg base CX0 k f1 fd1 ["_law_pen_here", "_law_many"] spDraw) (kp1 : PySem.W.keepIn K (.ref f1) = true) (b1 : Binds K fd1 ["_law_pen_here", "_law_many"] []) (g1 : mg "_law_draw" = some (.ref f1))
    (m1 : mg "len" = none) : FnOk P w K mg base CX0 (k + 1) f fd ["_law_pen_here", "_law_some"] spPick := by
  refine F.ok sc_l_pick (fun vs H Q E h => ?_) (fun cdv A outer s H vs Q E hr h => ?_)
  · obtain ⟨p, l, ns, rfl, _⟩ := h; rfl
  · obtain ⟨p, l, ns, rfl, hp, nlp, hl, z0, z1, q⟩ := h
    refine ⟨_, pss_one (ps_ret (pe_ix ix_list (pv 1) (pe_call G1 hr (by rfl) g1 kp1 b1 .nil pass0 (pa_cons (pv 0) (pa_cons (pe_callB call_len_seq (by rfl) m1 PySem.boot_len (pa_cons (pv 1) pa_nil)) pa_nil))) (fun _ _ => rfl))), ?_⟩
    have len : (ns.map V.int).length = ns.length := List.length_map _
    refine ⟨.ref l, rfl, .ref p, rfl, .ref l, rfl, l, _, rfl, .inl (.of hl), p, _, rfl, hp, by rw [len]; omega, by rw [len]; omega, fun H' r r0 r1 p' b' => ?_⟩
    rw [len] at r1
    obtain ⟨j, rfl⟩ : ∃ j : Nat, r = j := ⟨r.toNat, by omega⟩
    have hj : j < ns.length := by omega
    refine ⟨l, _, (j : Int), .int ns[j], rfl, rfl, .of (b' _ _ nlp hl), atI_nat ?_, q H' ns[j] (List.getElem_mem hj) p' b'⟩
    rw [List.getElem?_map, List.getElem?_eq_getElem hj]
    rfl
end
end Sg

set_option Elab.async false
set_option linter.all false
set_option maxRecDepth 100000
set_option maxHeartbeats 4000000
namespace Sg
open PySem PySem.Spec PyProof.Rows L2
abbrev wk (ws : List (List Int)) (k : Nat) : List Int := ws.getD k []
end Sg

set_option Elab.async false
set_option linter.all false
set_option maxRecDepth 100000
set_option maxHeartbeats 4000000
namespace Sg
open PySem PySem.Spec PyProof.Rows L2 StX
theorem cr_sumT {X : Cx} (hc : X.calm = true) : CallR X (.builtin "sum") (fun vs H Q => ∃ (a : Addr) (ns : List Int), vs = [.ref a] ∧ SqT X.K H a (ns.map V.int) ∧ Q (.int ns.sum) H) := by
  intro pins s σ H vs us Q I r h
  obtain ⟨a, ns, rfl, hs, q⟩ := h
  obtain ⟨its, rv, ht, hz⟩ := I.tuple hs
  rw [Vals.ref1 r]
  obtain ⟨xs, e⟩ := rv.ints.allInts.items
  have hn : numsOf (intItems xs).toList = ns := by rw [← e]; exact rv.ints.numsOf
  rw [nums_intItems] at hn
  rw [e] at ht
  refine PySem.W.ktm_sumG (I.ok.hd hc) ht fun h' tk t' hk => ?_
  refine ⟨.int ns.sum, H, I.kept hk, ⟨t', ?_⟩, q⟩
  rw [preSum_eq, List.take_of_length_le (by simp), hn]
theorem cLenK {X : Cx} {K : PySem.W.Frag} {k : Nat} {C : Addr} (M : Meths X.prog X.w K X.mg X.base k C) (hK : X.K = K) (hr : Room (k + 2) X.A) : CallR X (.builtin "len") (fun xs H Q => ∃ a ws, xs = [.ref a] ∧ LineAt K C H a ws ∧ Q (.int (ws.length : Nat)) H) := by
  subst hK
  exact M.cLen hr
/-- a lap of a line of n works -/
structure GoodLap (n : Nat) (lp : List Int) : Prop where
  pos : 1 ≤ lp.length
  most : lp.length ≤ 900
  items : ∀ x ∈ lp, -1 ≤ x ∧ x < n
structure GoodWt (n : Nat) (wt : List Int) : Prop where
  len : wt.length = n
  items : ∀ x ∈ wt, 0 ≤ x ∧ x ≤ 20
  some_ : 0 < wt.sum
/-- what a choice is worth -/
def worthN (wt : List Int) (c : Int) : Int := if c = -1 then 0 else wt.getD c.toNat 0
section
variable {P : Program} {w : World} {K : PySem.W.Frag} {mg : Str → Option Value} {base : Heap}
/-! ### is_lap, require_lap -/
def spIsLap (K : PySem.W.Frag) (C : Addr) : Sp := fun vs H Q _ => ∃ (a b : Addr) (ws : List (List Int)) (lp : List Int), vs = [.ref a, .ref b] ∧ LineAt K C H a ws ∧ SqT K H b (lp.map V.int) ∧ GoodLap ws.length lp ∧ ∀ H', Same H H' → Q (.bl true) H'
theorem ok_is_lap {f f1 C : Addr} {fd fd1 : FuncData} {k : Nat} (F : Fun K "is_lap" "is_lap" s_is_lap f fd) (M : Meths2 P w K mg base k C) (hN : ∃ t, mg "NOTHING" = some (.int (-1) t))
    (G1 : FnOk P w K mg base CX0 (k + 2) f1 fd1 ["thing", "least", "most"] spIsBetween) (kp1 : PySem.W.keepIn K (.ref f1) = true) (b1 : Binds K fd1 ["thing", "least", "most"] []) (g1 : mg "is_between" = some (.ref f1))
    (m1 : mg "isinstance" = none) (m2 : mg "tuple" = none) (m3 : mg "len" = none) (m4 : mg "all" = none) : FnOk P w K mg base CX0 (k + 3) f fd ["line", "thing"] (spIsLap K C) := by
  obtain ⟨tN, nN⟩ := hN
  refine F.ok sc_is_lap (fun vs H Q E h => ?_) (fun cdv A outer s H vs Q E hr h => ?_)
  · obtain ⟨a, b, ws, lp, rfl, _⟩ := h; rfl
  · obtain ⟨a, b, ws, lp, rfl, hL, hS, hg, q⟩ := h
    refine ⟨_, pss_cons (ps_if (PW.pt (pw_or (pt_not (pt_val (pe_callB call_isi (by rfl) m1 (by decide +kernel) (pa_cons (pv 1) (pa_cons (pe_bltn (v := .ty "tuple") (by rfl) m2 (by decide +kernel) rfl) pa_nil)))))
        (pw_or1 (pt_cmpR op_eq (pe_callB call_len_seq (by rfl) m3 PySem.boot_len (pa_cons (pv 1) pa_nil)) pe_int (nomark _))))) (pss_one (ps_ret pe_bl)) pss_nil)
      (pss_one (ps_ret (pe_callB (cr_all rfl) (by rfl) m4 (by decide +kernel) (pa_cons
          (pe_lc (own := [("item", 2)]) (g := gName 2) (tt := tYes) rfl sc_is_lap.nd (pi_tup (pv 1)) (blkOk_by (N := ["line", "thing", "item"]) (sc := defScope s_is_lap) (by decide +kernel))
            (fun _ _ _ _ _ => pg_name (i := 2) sc_is_lap.nd rfl (Or.inl rfl)) (fun _ _ _ _ _ => pts_nil)
            (fun _ _ _ _ _ => pe_call G1 hr (by rfl) g1 kp1 b1 .nil pass0 (pa_cons (pv 2) (pa_cons (pe_glob (v := .int (-1)) (by rfl) nN ⟨_, rfl⟩) (pa_cons (pe_op op_sub (pe_callB (cLenK (K := K) M.m rfl hr) (by rfl) m3 PySem.boot_len (pa_cons (pv 0) pa_nil)) pe_int) pa_nil))))) pa_nil)))), ?_⟩
    have ll : (lp.map V.int).length = lp.length := List.length_map _
    have l1 := hg.pos
    have l2 := hg.most
    refine ⟨.ref b, rfl, .ref b, .ty "tuple", _, _, true, rfl, .ty _, tyT hS, kit_ty (by decide +kernel), true, rfl, iteF ?_⟩
    refine ⟨.ref b, rfl, b, _, rfl, .inr hS, rfl, ?_⟩
    rw [show decide (V.int (((lp.map V.int).length : Nat) : Int) = V.int 0) = false from decide_eq_false fun z => by have := V.int.inj z; omega]
    refine ⟨_, rfl, iteF ?_⟩
    refine ⟨.ref b, rfl, b, rfl, ⟨_, hS⟩, fun D hD => ?_⟩
    refine lc_tup (xs := lp.map V.int) (fun i H' => Same H H' ∧ H' D = some (.lst ((List.replicate i true).map V.bl))) ⟨same_new hD, upd_same⟩ (fun i H' _ h => Same.tup h.1 hS) (fun i x H' hx h => ?_) (fun H' h => ?_)
    · rw [List.getElem?_map] at hx
      obtain ⟨z, hz, rfl⟩ := Option.map_eq_some_iff.mp hx
      have hi := (List.getElem?_eq_some_iff.mp hz).1
      obtain ⟨z1, z2⟩ := hg.items z (List.mem_of_getElem? hz)
      refine ⟨rfl, .int z, rfl, .ref a, rfl, a, ws, rfl, hL.stay (.of h.1), _, 1, rfl, rfl, z, -1, (ws.length : Nat) - 1, rfl, ?_⟩
      rw [decide_eq_true (show (-1 : Int) ≤ z by omega), decide_eq_true (show z ≤ (ws.length : Nat) - 1 by omega)]
      refine ⟨_, h.2, ?_, fun y o e => ?_, ?_⟩
      · rw [List.length_map, List.length_replicate]
        exact small1000 (by omega)
      · rw [upd_ne (ne_of_none e hD)]
        exact h.1 _ _ e
      · rw [upd_same, List.replicate_succ', List.map_append]
        rfl
    · have hall : (List.replicate (lp.map V.int).length true).all id = true := by simp
      refine ⟨D, _, rfl, .of h.2, ?_⟩
      rw [hall]
      exact q H' h.1
def spReqLap (K : PySem.W.Frag) (C : Addr) : Sp := fun vs H Q _ => ∃ (a b : Addr) (ws : List (List Int)) (lp : List Int), vs = [.ref a, .ref b] ∧ LineAt K C H a ws ∧ SqT K H b (lp.map V.int) ∧ GoodLap ws.length lp ∧ ∀ H', Same H H' → Q .non H'
theorem ok_require_lap {f f1 f2 C : Addr} {fd fd1 fd2 : FuncData} {k : Nat} (F : Fun K "require_lap" "require_lap" s_require_lap f fd)
    (G1 : FnOk P w K mg base CX0 k f1 fd1 ["thing"] (spReqLine K C)) (kp1 : PySem.W.keepIn K (.ref f1) = true) (b1 : Binds K fd1 ["thing"] []) (g1 : mg "require_line" = some (.ref f1))
    (G2 : FnOk P w K mg base CX0 k f2 fd2 ["line", "thing"] (spIsLap K C)) (kp2 : PySem.W.keepIn K (.ref f2) = true) (b2 : Binds K fd2 ["line", "thing"] []) (g2 : mg "is_lap" = some (.ref f2)) :
    FnOk P w K mg base CX0 (k + 1) f fd ["line", "thing"] (spReqLap K C) := by
  refine F.ok sc_require_lap (fun vs H Q E h => ?_) (fun cdv A outer s H vs Q E hr h => ?_)
  · obtain ⟨a, b, ws, lp, rfl, _⟩ := h; rfl
  · obtain ⟨a, b, ws, lp, rfl, hL, hS, hg, q⟩ := h
    refine ⟨_, pss_cons (ps_expr (pe_call G1 hr (by rfl) g1 kp1 b1 .nil pass0 (pa_cons (pv 0) pa_nil)))
      (pss_one (ps_if (pt_not (pt_val (pe_call G2 hr (by rfl) g2 kp2 b2 .nil pass0 (pa_cons (pv 0) (pa_cons (pv 1) pa_nil))))) (pss_one ps_never) pss_nil)), ?_⟩
    exact ⟨.ref a, rfl, a, ws, rfl, hL, .ref a, rfl, .ref b, rfl, a, b, ws, lp, rfl, hL, hS, hg, fun H' e => ⟨true, rfl, iteF (q H' e)⟩⟩
/-! ### worth_of -/
def spWorth (K : PySem.W.Frag) : Sp := fun vs H Q _ => ∃ (b : Addr) (wt : List Int) (c : Int), vs = [.ref b, .int c] ∧ SqT K H b (wt.map V.int) ∧ -1 ≤ c ∧ c < wt.length ∧ Q (.int (worthN wt c)) H
theorem ok_worth_of {f : Addr} {fd : FuncData} {k : Nat} (F : Fun K "worth_of" "worth_of" s_worth_of f fd) (hN : ∃ t, mg "NOTHING" = some (.int (-1) t)) :
    FnOk P w K mg base CX0 (k + 1) f fd ["worths", "choice"] (spWorth K) := by
  obtain ⟨tN, nN⟩ := hN
  refine F.ok sc_worth_of (fun vs H Q E h => ?_) (fun cdv A outer s H vs Q E hr h => ?_)
  · obtain ⟨b, wt, c, rfl, _⟩ := h; rfl
  · obtain ⟨b, wt, c, rfl, hS, c1, c2, q⟩ := h
    refine ⟨_, pss_one (ps_ret (pe_ifExp (pt_cmpR op_eq (pv 1) (pe_glob (v := .int (-1)) (by rfl) nN ⟨_, rfl⟩) (nomark _)) pe_int (pe_ix ix_tup (pv 0) (pv 1) (fun _ _ => rfl)))), ?_⟩
    refine ⟨.int c, rfl, rfl, _, rfl, ite2 (fun e => ?_) (fun e => ?_)⟩
    · have hc : c = -1 := V.int.inj (of_decide_eq_true e)
      unfold worthN at q
      rw [if_pos hc] at q
      exact q
    · have hc : c ≠ -1 := fun z => e (by rw [z]; exact decide_eq_true rfl)
      unfold worthN at q
      rw [if_neg hc] at q
      obtain ⟨j, rfl⟩ : ∃ j : Nat, c = j := ⟨c.toNat, by omega⟩
      have hj : j < wt.length := by omega
      rw [Int.toNat_natCast, List.getD_eq_getElem?_getD, List.getElem?_eq_getElem hj] at q
      refine ⟨.ref b, rfl, .int (j : Nat), rfl, b, _, (j : Nat), .int wt[j], rfl, rfl, hS, atI_nat ?_, q⟩
      rw [List.getElem?_map, List.getElem?_eq_getElem hj]
      rfl
/-! ### fraction -/
def spFrac : Sp := fun vs H Q _ => ∃ a b : Int, vs = [.int a, .int b] ∧ 0 < b ∧ b ≤ 900 ∧ ∀ p, H p = none → Q (.ref p) (L2.upd H p (.tup [.int (a / (Nat.gcd a.natAbs b.natAbs : Nat)), .int (b / (Nat.gcd a.natAbs b.natAbs : Nat))]))
theorem ok_fraction {f : Addr} {fd : FuncData} {k : Nat} (F : Fun K "fraction" "fraction" s_fraction f fd) (g1 : mg "gcd" = some (.builtin "math.gcd")) :
    FnOk P w K mg base CX0 (k + 1) f fd ["top", "bottom"] spFrac := by
  refine F.ok sc_fraction (fun vs H Q E h => ?_) (fun cdv A outer s H vs Q E hr h => ?_)
  · obtain ⟨a, b, rfl, _⟩ := h; rfl
  · obtain ⟨a, b, rfl, hb, hb2, q⟩ := h
    refine ⟨_, pss_cons (ps_set (i := 2) sc_fraction.nd rfl (.inl rfl) (pe_callBfun cr_gcd (by rfl) g1 (pa_cons (pv 0) (pa_cons (pv 1) pa_nil))))
      (pss_one (ps_ret (pe_tup (pa_cons (pe_op op_fdiv (pv 0) (pv 2)) (pa_cons (pe_op op_fdiv (pv 1) (pv 2)) pa_nil))))), ?_⟩
    have g0 : 0 < Nat.gcd a.natAbs b.natAbs := Nat.gcd_pos_of_pos_right _ (by omega)
    have g2 : Nat.gcd a.natAbs b.natAbs ≤ b.natAbs := Nat.gcd_le_right _ (by omega)
    refine ⟨.int a, rfl, .int b, rfl, a, b, rfl, ?_⟩
    generalize Nat.gcd a.natAbs b.natAbs = g at g0 g2 q ⊢
    exact ⟨.int a, rfl, .int (g : Nat), rfl, a, (g : Nat), rfl, rfl, ⟨by omega, by omega⟩, .int b, rfl, .int (g : Nat), rfl, b, (g : Nat), rfl, rfl, ⟨by omega, by omega⟩, by show 2 ≤ sizeLine; decide, fun p np => q p np⟩
/-! ### _is_worths, require_worths -/
def spIsWt (K : PySem.W.Frag) (C : Addr) : Sp := fun vs H Q _ => ∃ (a b : Addr) (ws : List (List Int)) (wt : List Int), vs = [.ref a, .ref b] ∧ LineAt K C H a ws ∧ SqT K H b (wt.map V.int) ∧ GoodWt ws.length wt ∧ ∀ H', Same H H' → Q (.bl true) H'
theorem ok_is_worths {f f1 C : Addr} {fd fd1 : FuncData} {k : Nat} (F : Fun K "_is_worths" "_is_worths" s_is_worths f fd) (M : Meths2 P w K mg base k C) (hN : ∃ t, mg "MOST_WORTH" = some (.int 20 t))
    (G1 : FnOk P w K mg base CX0 (k + 2) f1 fd1 ["thing", "least", "most"] spIsBetween) (kp1 : PySem.W.keepIn K (.ref f1) = true) (b1 : Binds K fd1 ["thing", "least", "most"] []) (g1 : mg "is_between" = some (.ref f1))
    (m1 : mg "isinstance" = none) (m2 : mg "tuple" = none) (m3 : mg "len" = none) (m4 : mg "all" = none) (m5 : mg "sum" = none) : FnOk P w K mg base CX0 (k + 3) f fd ["line", "thing"] (spIsWt K C) := by
  obtain ⟨tN, nN⟩ := hN
  refine F.ok sc_is_worths (fun vs H Q E h => ?_) (fun cdv A outer s H vs Q E hr h => ?_)
  · obtain ⟨a, b, ws, wt, rfl, _⟩ := h; rfl
  · obtain ⟨a, b, ws, wt, rfl, hL, hS, hg, q⟩ := h
    refine ⟨_, pss_cons (ps_if (PW.pt (pw_or (pt_not (pt_val (pe_callB call_isi (by rfl) m1 (by decide +kernel) (pa_cons (pv 1) (pa_cons (pe_bltn (v := .ty "tuple") (by rfl) m2 (by decide +kernel) rfl) pa_nil)))))
        (pw_or1 (pt_cmpR op_ne (pe_callB call_len_seq (by rfl) m3 PySem.boot_len (pa_cons (pv 1) pa_nil)) (pe_callB (cLenK (K := K) M.m rfl hr) (by rfl) m3 PySem.boot_len (pa_cons (pv 0) pa_nil)) (nomark _))))) (pss_one (ps_ret pe_bl)) pss_nil)
      (pss_one (ps_ret (pe_and (pe_callB (cr_all rfl) (by rfl) m4 (by decide +kernel) (pa_cons
          (pe_lc (own := [("worth", 2)]) (g := gName 2) (tt := tYes) rfl sc_is_worths.nd (pi_tup (pv 1)) (blkOk_by (N := ["line", "thing", "worth"]) (sc := defScope s_is_worths) (by decide +kernel))
            (fun _ _ _ _ _ => pg_name (i := 2) sc_is_worths.nd rfl (Or.inl rfl)) (fun _ _ _ _ _ => pts_nil)
            (fun _ _ _ _ _ => pe_call G1 hr (by rfl) g1 kp1 b1 .nil pass0 (pa_cons (pv 2) (pa_cons pe_int (pa_cons (pe_glob (v := .int 20) (by rfl) nN ⟨_, rfl⟩) pa_nil))))) pa_nil))
        (pe_one (pe_cmpR op_gt (pe_callB (cr_sumT rfl) (by rfl) m5 (by decide +kernel) (pa_cons (pv 1) pa_nil)) pe_int (nomark _)))))), ?_⟩
    have ll : (wt.map V.int).length = wt.length := List.length_map _
    have l1 := hg.len
    have few := hL.good.few
    refine ⟨.ref b, rfl, .ref b, .ty "tuple", _, _, true, rfl, .ty _, tyT hS, kit_ty (by decide +kernel), true, rfl, iteF ?_⟩
    refine ⟨.ref b, rfl, b, _, rfl, .inr hS, .ref a, rfl, a, ws, rfl, hL, rfl, ?_⟩
    rw [show (!decide (V.int (((wt.map V.int).length : Nat) : Int) = V.int ((ws.length : Nat) : Int))) = false from by rw [ll, l1, decide_eq_true rfl]; rfl]
    refine ⟨_, rfl, iteF ?_⟩
    refine ⟨.ref b, rfl, b, rfl, ⟨_, hS⟩, fun D hD => ?_⟩
    refine lc_tup (xs := wt.map V.int) (fun i H' => Same H H' ∧ H' D = some (.lst ((List.replicate i true).map V.bl))) ⟨same_new hD, upd_same⟩ (fun i H' _ h => Same.tup h.1 hS) (fun i x H' hx h => ?_) (fun H' h => ?_)
    · rw [List.getElem?_map] at hx
      obtain ⟨z, hz, rfl⟩ := Option.map_eq_some_iff.mp hx
      have hi := (List.getElem?_eq_some_iff.mp hz).1
      obtain ⟨z1, z2⟩ := hg.items z (List.mem_of_getElem? hz)
      refine ⟨rfl, .int z, rfl, z, 0, 20, rfl, ?_⟩
      rw [decide_eq_true (show (0 : Int) ≤ z by omega), decide_eq_true (show z ≤ 20 by omega)]
      refine ⟨_, h.2, ?_, fun y o e => ?_, ?_⟩
      · rw [List.length_map, List.length_replicate]
        exact small1000 (by omega)
      · rw [upd_ne (ne_of_none e hD)]
        exact h.1 _ _ e
      · rw [upd_same, List.replicate_succ', List.map_append]
        rfl
    · have hall : (List.replicate (wt.map V.int).length true).all id = true := by simp
      refine ⟨D, _, rfl, .of h.2, true, congrArg V.bl hall, iteT ?_⟩
      refine ⟨.ref b, rfl, b, wt, rfl, Same.tup h.1 hS, _, 0, rfl, rfl, ?_⟩
      show Q (V.bl (decide ((0 : Int) < wt.sum))) H'
      rw [decide_eq_true hg.some_]
      exact q H' h.1
def spReqWt (K : PySem.W.Frag) (C : Addr) : Sp := fun vs H Q _ => ∃ (a b : Addr) (ws : List (List Int)) (wt : List Int), vs = [.ref a, .ref b] ∧ LineAt K C H a ws ∧ SqT K H b (wt.map V.int) ∧ GoodWt ws.length wt ∧ ∀ H', Same H H' → Q .non H'
theorem ok_require_worths {f f1 f2 C : Addr} {fd fd1 fd2 : FuncData} {k : Nat} (F : Fun K "require_worths" "require_worths" s_require_worths f fd)
    (G1 : FnOk P w K mg base CX0 k f1 fd1 ["thing"] (spReqLine K C)) (kp1 : PySem.W.keepIn K (.ref f1) = true) (b1 : Binds K fd1 ["thing"] []) (g1 : mg "require_line" = some (.ref f1))
    (G2 : FnOk P w K mg base CX0 k f2 fd2 ["line", "thing"] (spIsWt K C)) (kp2 : PySem.W.keepIn K (.ref f2) = true) (b2 : Binds K fd2 ["line", "thing"] []) (g2 : mg "_is_worths" = some (.ref f2)) :
    FnOk P w K mg base CX0 (k + 1) f fd ["line", "thing"] (spReqWt K C) := by
  refine F.ok sc_require_worths (fun vs H Q E h => ?_) (fun cdv A outer s H vs Q E hr h => ?_)
  · obtain ⟨a, b, ws, wt, rfl, _⟩ := h; rfl
  · obtain ⟨a, b, ws, wt, rfl, hL, hS, hg, q⟩ := h
    refine ⟨_, pss_cons (ps_expr (pe_call G1 hr (by rfl) g1 kp1 b1 .nil pass0 (pa_cons (pv 0) pa_nil)))
      (pss_one (ps_if (pt_not (pt_val (pe_call G2 hr (by rfl) g2 kp2 b2 .nil pass0 (pa_cons (pv 0) (pa_cons (pv 1) pa_nil))))) (pss_one ps_never) pss_nil)), ?_⟩
    exact ⟨.ref a, rfl, a, ws, rfl, hL, .ref a, rfl, .ref b, rfl, a, b, ws, wt, rfl, hL, hS, hg, fun H' e => ⟨true, rfl, iteF (q H' e)⟩⟩
/-! ### mean -/
def gainN (wt lp : List Int) : Int := (lp.map (worthN wt)).sum
def fracL (a b : Int) : List Int := [a / (Nat.gcd a.natAbs b.natAbs : Nat), b / (Nat.gcd a.natAbs b.natAbs : Nat)]
def spMean (K : PySem.W.Frag) (C : Addr) : Sp := fun vs H Q _ => ∃ (a b c : Addr) (ws : List (List Int)) (lp wt : List Int), vs = [.ref a, .ref b, .ref c] ∧ LineAt K C H a ws ∧ SqT K H b (lp.map V.int) ∧ GoodLap ws.length lp ∧ SqT K H c (wt.map V.int) ∧ GoodWt ws.length wt ∧
  ∀ H' p, Same H H' → SqT K H' p ((fracL (gainN wt lp) lp.length).map V.int) → Q (.ref p) H'
theorem ok_mean {f f1 f2 f3 f4 C : Addr} {fd fd1 fd2 fd3 fd4 : FuncData} {k : Nat} (F : Fun K "mean" "mean" s_mean f fd)
    (G1 : FnOk P w K mg base CX0 k f1 fd1 ["line", "thing"] (spReqLap K C)) (kp1 : PySem.W.keepIn K (.ref f1) = true) (b1 : Binds K fd1 ["line", "thing"] []) (g1 : mg "require_lap" = some (.ref f1))
    (G2 : FnOk P w K mg base CX0 k f2 fd2 ["line", "thing"] (spReqWt K C)) (kp2 : PySem.W.keepIn K (.ref f2) = true) (b2 : Binds K fd2 ["line", "thing"] []) (g2 : mg "require_worths" = some (.ref f2))
    (G3 : FnOk P w K mg base CX0 k f3 fd3 ["worths", "choice"] (spWorth K)) (kp3 : PySem.W.keepIn K (.ref f3) = true) (b3 : Binds K fd3 ["worths", "choice"] []) (g3 : mg "worth_of" = some (.ref f3))
    (G4 : FnOk P w K mg base CX0 k f4 fd4 ["top", "bottom"] spFrac) (kp4 : PySem.W.keepIn K (.ref f4) = true) (b4 : Binds K fd4 ["top", "bottom"] []) (g4 : mg "fraction" = some (.ref f4))
    (m1 : mg "sum" = none) (m2 : mg "len" = none) : FnOk P w K mg base CX0 (k + 1) f fd ["line", "lap", "worths"] (spMean K C) := by
  refine F.ok sc_mean (fun vs H Q E h => ?_) (fun cdv A outer s H vs Q E hr h => ?_)
  · obtain ⟨a, b, c, ws, lp, wt, rfl, _⟩ := h; rfl
  · obtain ⟨a, b, c, ws, lp, wt, rfl, hL, hS, hg, hT, hw, q⟩ := h
    refine ⟨_, pss_cons (ps_expr (pe_call G1 hr (by rfl) g1 kp1 b1 .nil pass0 (pa_cons (pv 0) (pa_cons (pv 1) pa_nil))))
      (pss_cons (ps_expr (pe_call G2 hr (by rfl) g2 kp2 b2 .nil pass0 (pa_cons (pv 0) (pa_cons (pv 2) pa_nil))))
      (pss_one (ps_ret (pe_call G4 hr (by rfl) g4 kp4 b4 .nil pass0 (pa_cons (pe_callB (cr_sum rfl) (by rfl) m1 (by decide +kernel) (pa_cons
          (pe_lc (own := [("choice", 3)]) (g := gName 3) (tt := tYes) rfl sc_mean.nd (pi_tup (pv 1)) (blkOk_by (N := ["line", "lap", "worths", "choice"]) (sc := defScope s_mean) (by decide +kernel))
            (fun _ _ _ _ _ => pg_name (i := 3) sc_mean.nd rfl (Or.inl rfl)) (fun _ _ _ _ _ => pts_nil)
            (fun _ _ _ _ _ => pe_call G3 hr (by rfl) g3 kp3 b3 .nil pass0 (pa_cons (pv 2) (pa_cons (pv 3) pa_nil)))) pa_nil)) (pa_cons (pe_callB call_len_seq (by rfl) m2 PySem.boot_len (pa_cons (pv 1) pa_nil)) pa_nil)))))), ?_⟩
    have ll : (lp.map V.int).length = lp.length := List.length_map _
    have l1 := hg.pos
    have l2 := hg.most
    refine ⟨.ref a, rfl, .ref b, rfl, a, b, ws, lp, rfl, hL, hS, hg, fun H1 e1 => ?_⟩
    refine ⟨.ref a, rfl, .ref c, rfl, a, c, ws, wt, rfl, hL.stay (.of e1), Same.tup e1 hT, hw, fun H2 e2 => ?_⟩
    have e12 := e1.trans e2
    refine ⟨.ref b, rfl, b, rfl, ⟨_, Same.tup e12 hS⟩, fun D hD => ?_⟩
    refine lc_tup (xs := lp.map V.int) (fun i H' => Same H2 H' ∧ H' D = some (.lst (((lp.take i).map (worthN wt)).map V.int))) ⟨same_new hD, upd_same⟩ (fun i H' _ h => Same.tup (e12.trans h.1) hS) (fun i x H' hx h => ?_) (fun H' h => ?_)
    · rw [List.getElem?_map] at hx
      obtain ⟨z, hz, rfl⟩ := Option.map_eq_some_iff.mp hx
      have hi := (List.getElem?_eq_some_iff.mp hz).1
      obtain ⟨z1, z2⟩ := hg.items z (List.mem_of_getElem? hz)
      have lw := hw.len
      refine ⟨rfl, .ref c, rfl, .int z, rfl, c, wt, z, rfl, Same.tup (e12.trans h.1) hT, z1, by omega, ?_⟩
      refine ⟨_, h.2, ?_, fun y o e => ?_, ?_⟩
      · rw [List.length_map, List.length_map, List.length_take]
        exact small1000 (by omega)
      · rw [upd_ne (ne_of_none e hD)]
        exact h.1 _ _ e
      · rw [upd_same, List.take_add_one, hz, List.map_append, List.map_append]
        rfl
    · rw [ll, List.take_length] at h
      have e3 := e12.trans h.1
      refine ⟨D, _, rfl, .of h.2, .ref b, rfl, b, _, rfl, .inr (Same.tup e3 hS), gainN wt lp, ((lp.map V.int).length : Nat), rfl, by omega, by omega, fun p np => ?_⟩
      refine q _ p (e3.trans (same_new np)) ?_
      rw [← ll]
      exact .of upd_same
end
end Sg

set_option Elab.async false
set_option linter.all false
set_option maxRecDepth 100000
set_option maxHeartbeats 4000000
namespace Sg
open PySem PySem.Spec PyProof.Rows L2 StX
theorem ix_tupK {X : Cx} {K : PySem.W.Frag} (hK : X.K = K) : IxR X (rIxT K) := by subst hK; exact ix_tup
theorem call_lenK {X : Cx} {K : PySem.W.Frag} (hK : X.K = K) : CallR X (.builtin "len") (fun xs H Q => ∃ p ys, xs = [.ref p] ∧ (SqL K H p ys ∨ SqT K H p ys) ∧ Q (.int ys.length) H) := by
  subst hK
  exact call_len_seq
/-- a walk, whatever is done in its turns -/
theorem it_any {J : It} {n : Nat} {G : Hp → Prop} {Y : Nat → Hp → V → Hp → Prop} (wk : Walk J n G Y) {g : TG} {σ0 : L2.St} {H0 : Hp} {Qd : Hp → Prop} (B : (Hp → Prop) → L2.St → Hp → Prop) (Pv : Nat → Hp → Prop) (h0 : Pv 0 H0) (hG : ∀ i H, i ≤ n → Pv i H → G H)
    (hs : ∀ i x H H', i < n → Pv i H → Y i H x H' → g x σ0 H' (B (Pv (i + 1)))) (hd : ∀ H, Pv n H → Qd H) :
    ∃ W : Nat → Nat → Hp → Prop, (∃ m, W 0 m H0) ∧ ∀ i m H, W i m H → (J.stop i H ∧ Qd H) ∨ (J.go i H ∧ ∃ Nx : Hp → Prop, (∀ H', Nx H' → ∃ m', m' < m ∧ W (i + 1) m' H') ∧ ∀ x H', J.yld i H x H' → g x σ0 H' (B Nx)) := by
  refine ⟨fun i m H => m = n - i ∧ i ≤ n ∧ Pv i H, ⟨n, by simp, Nat.zero_le _, h0⟩, ?_⟩
  rintro i m H ⟨rfl, hi, hp⟩
  have hg := hG i H hi hp
  rcases Nat.lt_or_eq_of_le hi with hlt | rfl
  · exact .inr ⟨wk.goes i H hlt hg, Pv (i + 1), fun H' p' => ⟨n - (i + 1), by omega, rfl, hlt, p'⟩, fun x H' y => hs i x H H' hlt hp (wk.yields i H x H' hlt hg y)⟩
  · exact .inl ⟨wk.stops H hg, hd H hp⟩
/-- what is started in a tick of a lap clashes with a piece behind it -/
def clashL (ws : List (List Int)) (lp : List Int) (t : Nat) : Prop :=
  ∃ kd : Nat, lp[t]? = some ((kd : Nat) : Int) ∧ ∃ o d : Nat, o < ws.length ∧ d ∈ barsN (wk ws kd) (wk ws o) ∧ lp[(t + d) % lp.length]? = some ((o : Nat) : Int)
section
variable {P : Program} {w : World} {K : PySem.W.Frag} {mg : Str → Option Value} {base : Heap}
def spClashL (K : PySem.W.Frag) (C : Addr) : Sp := fun vs H Q _ => ∃ (a b : Addr) (t : Nat) (ws : List (List Int)) (lp : List Int), vs = [.ref a, .ref b, .int t] ∧ LineAt K C H a ws ∧ SqT K H b (lp.map V.int) ∧ GoodLap ws.length lp ∧ t < lp.length ∧
  ∀ H' r, Same H H' → (r = true ↔ clashL ws lp t) → Q (.bl r) H'
abbrev clashN : List Str := ["line", "lap", "tick", "kind", "other", "bar"]
theorem ok_clashes {f C : Addr} {fd : FuncData} {k : Nat} (F : Fun K "_clashes" "_clashes" s_clashes f fd) (M : Meths2 P w K mg base k C) (hN : ∃ t, mg "NOTHING" = some (.int (-1) t)) (m1 : mg "any" = none) (m2 : mg "range" = none) (m3 : mg "len" = none) :
    FnOk P w K mg base CX0 (k + 3) f fd ["line", "lap", "tick"] (spClashL K C) := by
  obtain ⟨tN, nN⟩ := hN
  refine F.ok sc_clashes (fun vs H Q E h => ?_) (fun cdv A outer s H vs Q E hr h => ?_)
  · obtain ⟨a, b, t, ws, lp, rfl, _⟩ := h; rfl
  · obtain ⟨a, b, t, ws, lp, rfl, hL, hS, hg, ht, q⟩ := h
    refine ⟨_, pss_cons (ps_set (i := 3) sc_clashes.nd rfl (.inr rfl) (pe_ix ix_tup (pv 1) (pv 2) (fun _ _ => rfl)))
      (pss_cons (ps_if (pt_cmpR op_eq (pv 3) (pe_glob (v := .int (-1)) (by rfl) nN ⟨_, rfl⟩) (nomark _)) (pss_one (ps_ret pe_bl)) pss_nil)
      (pss_one (ps_ret (pe_callB (cr_any rfl) (by rfl) m1 (by decide +kernel) (pa_cons
        (pe_lc2 (own := [("other", 4), ("bar", 5)]) (vs1 := [5]) (g := gName 4) (g1 := gName 5) (tt := tYes) (tt1 := tYes) rfl sc_clashes.nd (pi_range1 (by rfl) m2 (pa_cons (pe_callB (M.m.cLen hr) (by rfl) m3 PySem.boot_len (pa_cons (pv 0) pa_nil)) pa_nil))
          (blkOk_by (N := clashN) (sc := defScope s_clashes) (by decide +kernel)) (by decide)
          (fun _ _ _ _ _ => pg_name (i := 4) sc_clashes.nd rfl (Or.inl rfl)) (fun _ _ _ _ _ => pts_nil)
          (fun _ _ _ _ _ => pi_tupK (K := K) rfl (M.m.pCall (K := K) rfl hr (pv 0) (pa_cons (pv 3) (pa_cons (pv 4) pa_nil))))
          (fun _ _ _ _ _ => pg_name (i := 5) sc_clashes.nd rfl (Or.inl rfl)) (fun _ _ _ _ _ => pts_nil)
          (fun _ _ _ _ _ => pe_cmpR op_eq (pe_ix (ix_tupK (K := K) rfl) (pv 1) (pe_op op_mod (pe_op op_add (pv 2) (pv 5)) (pe_callB (call_lenK (K := K) rfl) (by rfl) m3 PySem.boot_len (pa_cons (pv 1) pa_nil))) (fun _ _ => rfl)) (pv 4) (nomark _))) pa_nil))))), ?_⟩
    have ll : (lp.map V.int).length = lp.length := List.length_map _
    have few := hL.good.few
    obtain ⟨z, hz⟩ : ∃ z, lp[t]? = some z := ⟨lp[t], List.getElem?_eq_getElem ht⟩
    have atx : ∀ {j : Nat} {y : Int}, lp[j]? = some y → atI (lp.map V.int) ((j : Nat) : Int) = some (.int y) := fun {j y} h => atI_nat (by rw [List.getElem?_map, h]; rfl)
    refine ⟨.ref b, rfl, .int (t : Nat), rfl, b, _, (t : Nat), .int z, rfl, rfl, hS, atx hz, .int z, rfl, rfl, _, rfl, ite2 (fun e => ?_) (fun e => ?_)⟩
    · have ez : z = -1 := V.int.inj (of_decide_eq_true e)
      refine q H false (fun _ _ y => y) ⟨fun y => (nomatch y), fun ⟨kd, h1, _⟩ => ?_⟩
      rw [hz, ez] at h1
      have := Option.some.inj h1
      omega
    · have ez : z ≠ -1 := fun y => e (by rw [y]; exact decide_eq_true rfl)
      obtain ⟨z1, z2⟩ := hg.items z (List.mem_of_getElem? hz)
      obtain ⟨kd, rfl⟩ : ∃ kd : Nat, z = kd := ⟨z.toNat, by omega⟩
      have hk : kd < ws.length := by omega
      obtain ⟨x1, hx1⟩ : ∃ x, ws[kd]? = some x := ⟨ws[kd], List.getElem?_eq_getElem hk⟩
      have ex1 : wk ws kd = x1 := by unfold wk; rw [List.getD_eq_getElem?_getD, hx1]; rfl
      have lx1 := (hL.good.work x1 (List.mem_of_getElem? hx1)).most
      have lbars : ∀ y : List Int, (barsN x1 y).length ≤ 59 := fun y => by
        have := barsTo_len x1 y (x1.length - 1)
        exact Nat.le_trans this (by omega)
      refine ⟨.ref a, rfl, a, ws, rfl, hL, _, rfl, by omega, by omega, fun D hD => ?_⟩
      refine it_any (walk_range (lo := 0) (n := ((ws.length : Nat) : Int).toNat)) _ (fun i H' => Same H H' ∧ ∃ bs : List Bool, H' D = some (.lst (bs.map V.bl)) ∧ bs.length ≤ 60 * i ∧
          (bs.any id = true ↔ ∃ o d : Nat, o < i ∧ d ∈ barsN (wk ws kd) (wk ws o) ∧ lp[(t + d) % lp.length]? = some ((o : Nat) : Int)))
        ⟨same_new hD, [], upd_same, Nat.zero_le _, (fun y => (nomatch y)), fun ⟨o, d, y, _⟩ => absurd y (Nat.not_lt_zero _)⟩ (fun _ _ _ _ => trivial) (fun i x H1 H' hi h hY => ?_) (fun H' h => ?_)
      · obtain ⟨e1, bs, hD1, lb, hbs⟩ := h
        obtain ⟨rfl, rfl⟩ := hY
        have hiw : i < ws.length := by omega
        obtain ⟨x2, hx2⟩ : ∃ x, ws[i]? = some x := ⟨ws[i], List.getElem?_eq_getElem hiw⟩
        have ex2 : wk ws i = x2 := by unfold wk; rw [List.getD_eq_getElem?_getD, hx2]; rfl
        refine ⟨rfl, .ref a, rfl, a, rfl, .int (kd : Nat), rfl, .int (0 + i), rfl, ws, kd, i, x1, x2, by rw [Int.zero_add], hL.stay (.of e1), hx1, hx2, fun c hc => ⟨c, rfl, ⟨_, hc⟩, ?_⟩⟩
        refine it_any (walk_tup (K := K) (a := c) (xs := nV (barsN x1 x2))) _ (fun j H' => Same H H' ∧ SqT K H' c (nV (barsN x1 x2)) ∧ ∃ bs : List Bool, H' D = some (.lst (bs.map V.bl)) ∧ bs.length ≤ 60 * i + j ∧
            (bs.any id = true ↔ (∃ o d : Nat, o < i ∧ d ∈ barsN (wk ws kd) (wk ws o) ∧ lp[(t + d) % lp.length]? = some ((o : Nat) : Int)) ∨ ∃ d ∈ (barsN x1 x2).take j, lp[(t + d) % lp.length]? = some ((i : Nat) : Int)))
          ⟨e1, hc, bs, hD1, by omega, by rw [hbs]; exact ⟨.inl, fun y => y.elim id fun ⟨_, y, _⟩ => absurd y (by simp)⟩⟩ (fun j H' _ h => h.2.1) (fun j x H2 H' hj h hY => ?_) (fun H' h => ?_)
        · obtain ⟨e2, hc2, bs2, hD2, lb2, hbs2⟩ := h
          obtain ⟨rfl, hx⟩ := hY
          rw [List.getElem?_map] at hx
          obtain ⟨d, hd, rfl⟩ := Option.map_eq_some_iff.mp hx
          have hjb := (List.getElem?_eq_some_iff.mp hd).1
          have lbx := lbars x2
          have hm : (t + d) % lp.length < lp.length := Nat.mod_lt _ (by omega)
          obtain ⟨y, hy⟩ : ∃ y, lp[(t + d) % lp.length]? = some y := ⟨_, List.getElem?_eq_getElem hm⟩
          have em : (((t : Nat) : Int) + (d : Nat)) % (((lp.map V.int).length : Nat) : Int) = (((t + d) % lp.length : Nat) : Int) := by rw [ll]; first | rfl | exact (Int.natCast_emod (t + d) lp.length).symm | exact (Int.ofNat_emod (t + d) lp.length).symm
          have hS2 := Same.tup e2 hS
          refine ⟨rfl, .ref b, rfl, .int (t : Nat), rfl, .int (d : Nat), rfl, (t : Nat), (d : Nat), rfl, rfl, .ref b, rfl, b, _, rfl, .inr hS2, _, _, rfl, rfl, by omega, b, _, _, .int y, rfl, rfl, hS2, ?_, .int (0 + i), rfl, rfl, ?_⟩
          · rw [em]
            exact atx hy
          · refine ⟨_, hD2, ?_, fun u o e => ?_, tup_upd hD2 (fun _ z => nomatch z) (fun _ _ z => nomatch z) hc2, bs2 ++ [decide (V.int y = V.int (0 + (i : Nat)))], ?_, ?_, ?_⟩
            · rw [List.length_map]
              exact small1000 (by omega)
            · rw [upd_ne (ne_of_none e hD)]
              exact e2 _ _ e
            · rw [upd_same, List.map_append]
              rfl
            · rw [List.length_append]
              show bs2.length + 1 ≤ _
              omega
            · rw [List.any_append, Bool.or_eq_true, hbs2, List.take_add_one, hd]
              have one : ([decide (V.int y = V.int (0 + (i : Nat)))].any id = true) ↔ lp[(t + d) % lp.length]? = some ((i : Nat) : Int) := by
                rw [hy, List.any_cons, List.any_nil, Bool.or_false]
                show decide _ = true ↔ _
                rw [decide_eq_true_eq, Int.zero_add]
                exact ⟨fun u => by rw [V.int.inj u], fun u => by rw [Option.some.inj u]⟩
              rw [one]
              constructor
              · rintro ((u | ⟨d', hd', g⟩) | u)
                · exact .inl u
                · exact .inr ⟨d', List.mem_append_left _ hd', g⟩
                · exact .inr ⟨d, List.mem_append_right _ (List.mem_singleton.mpr rfl), u⟩
              · rintro (u | ⟨d', hd', g⟩)
                · exact .inl (.inl u)
                · rcases List.mem_append.mp hd' with u | u
                  · exact .inl (.inr ⟨d', u, g⟩)
                  · rw [List.mem_singleton.mp u] at g
                    exact .inr g
        · obtain ⟨e2, _, bs2, hD2, lb2, hbs2⟩ := h
          have ln : (nV (barsN x1 x2)).length = (barsN x1 x2).length := List.length_map _
          rw [ln] at lb2
          rw [ln, List.take_length] at hbs2
          have lbx := lbars x2
          refine ⟨e2, bs2, hD2, by omega, ?_⟩
          rw [hbs2]
          constructor
          · rintro (⟨o, d, u, v⟩ | ⟨d, u, v⟩)
            · exact ⟨o, d, by omega, v⟩
            · exact ⟨i, d, by omega, by rw [ex1, ex2]; exact u, v⟩
          · rintro ⟨o, d, u, v1, v2⟩
            by_cases ho : o < i
            · exact .inl ⟨o, d, ho, v1, v2⟩
            · have : o = i := by omega
              subst this
              rw [ex1, ex2] at v1
              exact .inr ⟨d, v1, v2⟩
      · obtain ⟨e2, bs2, hD2, lb2, hbs2⟩ := h
        refine ⟨D, _, rfl, .of hD2, q H' _ e2 ?_⟩
        rw [hbs2]
        constructor
        · rintro ⟨o, d, u, v⟩
          exact ⟨kd, hz, o, d, by omega, v⟩
        · rintro ⟨kd', h1, o, d, u, v⟩
          have : kd = kd' := by
            rw [hz] at h1
            have := Option.some.inj h1
            omega
          subst this
          exact ⟨o, d, by omega, v⟩
end
end Sg

set_option Elab.async false
set_option linter.all false
set_option maxRecDepth 100000
set_option maxHeartbeats 4000000
namespace Sg
open PySem PySem.Spec PyProof.Rows L2 StX
/-- no two of the pieces of a lap clash -/
def noClash (ws : List (List Int)) (lp : List Int) : Prop := ¬ ∃ t, t < lp.length ∧ clashL ws lp t
section
variable {P : Program} {w : World} {K : PySem.W.Frag} {mg : Str → Option Value} {base : Heap}
def spFits (K : PySem.W.Frag) (C : Addr) : Sp := fun vs H Q _ => ∃ (a b : Addr) (ws : List (List Int)) (lp : List Int), vs = [.ref a, .ref b] ∧ LineAt K C H a ws ∧ SqT K H b (lp.map V.int) ∧ GoodLap ws.length lp ∧ ∀ H' r, Same H H' → (r = true ↔ noClash ws lp) → Q (.bl r) H'
theorem ok_fits {f f1 f2 C : Addr} {fd fd1 fd2 : FuncData} {k : Nat} (F : Fun K "fits" "fits" s_fits f fd)
    (G1 : FnOk P w K mg base CX0 k f1 fd1 ["line", "thing"] (spReqLap K C)) (kp1 : PySem.W.keepIn K (.ref f1) = true) (b1 : Binds K fd1 ["line", "thing"] []) (g1 : mg "require_lap" = some (.ref f1))
    (G2 : FnOk P w K mg base CX0 k f2 fd2 ["line", "lap", "tick"] (spClashL K C)) (kp2 : PySem.W.keepIn K (.ref f2) = true) (b2 : Binds K fd2 ["line", "lap", "tick"] []) (g2 : mg "_clashes" = some (.ref f2))
    (m1 : mg "any" = none) (m2 : mg "range" = none) (m3 : mg "len" = none) : FnOk P w K mg base CX0 (k + 1) f fd ["line", "lap"] (spFits K C) := by
  refine F.ok sc_fits (fun vs H Q E h => ?_) (fun cdv A outer s H vs Q E hr h => ?_)
  · obtain ⟨a, b, ws, lp, rfl, _⟩ := h; rfl
  · obtain ⟨a, b, ws, lp, rfl, hL, hS, hg, q⟩ := h
    refine ⟨_, pss_cons (ps_expr (pe_call G1 hr (by rfl) g1 kp1 b1 .nil pass0 (pa_cons (pv 0) (pa_cons (pv 1) pa_nil))))
      (pss_one (ps_ret (pe_not (pe_callB (cr_any rfl) (by rfl) m1 (by decide +kernel) (pa_cons
        (pe_lc (own := [("tick", 2)]) (g := gName 2) (tt := tYes) rfl sc_fits.nd (pi_range1 (by rfl) m2 (pa_cons (pe_callB call_len_seq (by rfl) m3 PySem.boot_len (pa_cons (pv 1) pa_nil)) pa_nil)) (blkOk_by (N := ["line", "lap", "tick"]) (sc := defScope s_fits) (by decide +kernel))
          (fun _ _ _ _ _ => pg_name (i := 2) sc_fits.nd rfl (Or.inl rfl)) (fun _ _ _ _ _ => pts_nil)
          (fun _ _ _ _ _ => pe_call G2 hr (by rfl) g2 kp2 b2 .nil pass0 (pa_cons (pv 0) (pa_cons (pv 1) (pa_cons (pv 2) pa_nil))))) pa_nil))))), ?_⟩
    have ll : (lp.map V.int).length = lp.length := List.length_map _
    have l2 := hg.most
    refine ⟨.ref a, rfl, .ref b, rfl, a, b, ws, lp, rfl, hL, hS, hg, fun H1 e1 => ?_⟩
    refine ⟨.ref b, rfl, b, _, rfl, .inr (Same.tup e1 hS), _, rfl, by omega, by omega, fun D hD => ?_⟩
    refine lc_range (lo := 0) (n := (((lp.map V.int).length : Nat) : Int).toNat) (fun i H' => Same H1 H' ∧ ∃ bs : List Bool, H' D = some (.lst (bs.map V.bl)) ∧ bs.length = i ∧ (bs.any id = true ↔ ∃ t, t < i ∧ clashL ws lp t))
      ⟨same_new hD, [], upd_same, rfl, (fun y => (nomatch y)), fun ⟨t, y, _⟩ => absurd y (Nat.not_lt_zero _)⟩ (fun i H' hi h => ?_) (fun H' h => ?_)
    · obtain ⟨e2, bs, hD2, lb, hbs⟩ := h
      have hi2 : i < lp.length := by omega
      refine ⟨rfl, .ref a, rfl, .ref b, rfl, .int (0 + i), rfl, a, b, i, ws, lp, by rw [Int.zero_add]; rfl, hL.stay (.of (e1.trans e2)), Same.tup (e1.trans e2) hS, hg, hi2, fun H3 r e3 hr => ?_⟩
      refine ⟨_, e3 _ _ hD2, ?_, fun u o e => ?_, bs ++ [r], ?_, ?_, ?_⟩
      · rw [List.length_map]
        exact small1000 (by omega)
      · rw [upd_ne (ne_of_none e hD)]
        exact e3 _ _ (e2 _ _ e)
      · rw [upd_same, List.map_append]
        rfl
      · rw [List.length_append, lb]
        rfl
      · rw [List.any_append, Bool.or_eq_true, hbs]
        have one : ([r].any id = true) ↔ clashL ws lp i := by
          rw [← hr, List.any_cons, List.any_nil, Bool.or_false]
          rfl
        rw [one]
        constructor
        · rintro (⟨t, u, v⟩ | u)
          · exact ⟨t, by omega, v⟩
          · exact ⟨i, by omega, u⟩
        · rintro ⟨t, u, v⟩
          by_cases ht : t < i
          · exact .inl ⟨t, ht, v⟩
          · rw [show t = i by omega] at v
            exact .inr v
    · obtain ⟨e2, bs, hD2, lb, hbs⟩ := h
      rw [ll] at lb hbs
      rw [Int.toNat_natCast] at lb hbs
      refine ⟨D, bs, rfl, .of hD2, _, rfl, q H' _ (e1.trans e2) ?_⟩
      unfold noClash
      rw [← hbs]
      cases bs.any id <;> simp
end
end Sg

set_option Elab.async false
set_option linter.all false
set_option maxRecDepth 100000
set_option maxHeartbeats 4000000
namespace Sg
open PySem PySem.Spec PyProof.Rows L2 StX
/-- the work of an item of a lap, none for -1 -/
def wkL (ws : List (List Int)) (z : Int) : List Int := if z = -1 then [] else wk ws z.toNat
/-- the item in a tick -/
def itL (lp : List Int) (t : Nat) : Int := lp.getD (t % lp.length) 0
def pieceL (ws : List (List Int)) (lp : List Int) (t : Nat) : List Int := wkL ws (itL lp t)
def takenT (ws : List (List Int)) (lp : List Int) (T : Nat) (p : Spot) : Prop := ∃ (t j : Nat) (st : Int), t < T ∧ (pieceL ws lp t)[j]? = some st ∧ st ≠ -1 ∧ p = (((t : Nat) : Int) + (j : Nat), st)
/-- the piece of tick T meets one of those before -/
def meetL (ws : List (List Int)) (lp : List Int) (T : Nat) : Prop := ∃ (j : Nat) (st : Int), (pieceL ws lp T)[j]? = some st ∧ st ≠ -1 ∧ takenT ws lp T (((T : Nat) : Int) + (j : Nat), st)
theorem itL_at {lp : List Int} (h : 1 ≤ lp.length) (t : Nat) : lp[t % lp.length]? = some (itL lp t) := by
  unfold itL
  have hm : t % lp.length < lp.length := Nat.mod_lt _ (by omega)
  rw [List.getD_eq_getElem?_getD, List.getElem?_eq_getElem hm]
  rfl
theorem meetL_clash {ws : List (List Int)} {lp : List Int} {mx : Nat} (gw : GoodL ws) (hg : GoodLap ws.length lp) (hm : ∀ w ∈ ws, w.length ≤ mx) : (∃ T, T < lp.length + mx ∧ meetL ws lp T) ↔ ∃ t, t < lp.length ∧ clashL ws lp t := by
  have hpos := hg.pos
  constructor
  · rintro ⟨T, hT, j2, st, h1, h2, t, j1, st', ht, h3, h4, h5⟩
    have e1 : ((T : Nat) : Int) + (j2 : Nat) = ((t : Nat) : Int) + (j1 : Nat) := congrArg Prod.fst h5
    have e2 : st = st' := congrArg Prod.snd h5
    subst e2
    have n1 : itL lp t ≠ -1 := fun z => by unfold pieceL wkL at h3; rw [if_pos z] at h3; exact nomatch h3
    have n2 : itL lp T ≠ -1 := fun z => by unfold pieceL wkL at h1; rw [if_pos z] at h1; exact nomatch h1
    have i1 := hg.items _ (List.mem_of_getElem? (itL_at hpos t))
    have i2 := hg.items _ (List.mem_of_getElem? (itL_at hpos T))
    obtain ⟨k1, hk1⟩ : ∃ k : Nat, itL lp t = k := ⟨(itL lp t).toNat, by omega⟩
    obtain ⟨k2, hk2⟩ : ∃ k : Nat, itL lp T = k := ⟨(itL lp T).toNat, by omega⟩
    unfold pieceL wkL at h1 h3
    rw [if_neg n2, hk2, Int.toNat_natCast] at h1
    rw [if_neg n1, hk1, Int.toNat_natCast] at h3
    obtain ⟨d, hd⟩ : ∃ d, T = t + d := ⟨T - t, by omega⟩
    refine ⟨t % lp.length, Nat.mod_lt _ (by omega), k1, by rw [itL_at hpos, hk1], k2, d, by omega, ?_, ?_⟩
    · unfold barsN
      have ej : d + j2 = j1 := by omega
      have hj := (List.getElem?_eq_some_iff.mp h3).1
      exact List.mem_filter.mpr ⟨List.mem_range'_1.mpr ⟨by omega, by omega⟩, clashB_iff.mpr ⟨j2, st, by rw [ej]; exact h3, h1, h2⟩⟩
    · rw [Nat.mod_add_mod, ← hd, itL_at hpos, hk2]
  · rintro ⟨t, ht, k1, h1, k2, d, hk2, hd, h2⟩
    unfold barsN at hd
    obtain ⟨hr, hc⟩ := List.mem_filter.mp hd
    obtain ⟨j, st, g1, g2, g3⟩ := clashB_iff.mp hc
    have hr1 := (List.mem_range'_1.mp hr).1
    have hl1 := (List.getElem?_eq_some_iff.mp g1).1
    have i1 := hg.items _ (List.mem_of_getElem? h1)
    have hk1 : k1 < ws.length := by omega
    have hw : wk ws k1 ∈ ws := by
      unfold wk
      rw [List.getD_eq_getElem?_getD, List.getElem?_eq_getElem hk1]
      exact List.getElem_mem hk1
    have hmx := hm _ hw
    have et : t % lp.length = t := Nat.mod_eq_of_lt ht
    have it1 : itL lp t = k1 := by
      have := itL_at hpos t
      rw [et, h1] at this
      exact (Option.some.inj this).symm
    have it2 : itL lp (t + d) = k2 := by
      have := itL_at hpos (t + d)
      rw [h2] at this
      exact (Option.some.inj this).symm
    have p1 : pieceL ws lp t = wk ws k1 := by
      unfold pieceL wkL
      rw [it1, if_neg (by omega), Int.toNat_natCast]
    have p2 : pieceL ws lp (t + d) = wk ws k2 := by
      unfold pieceL wkL
      rw [it2, if_neg (by omega), Int.toNat_natCast]
    refine ⟨t + d, by omega, j, st, by rw [p2]; exact g2, g3, t, d + j, st, by omega, by rw [p1]; exact g1, g3, ?_⟩
    refine Prod.ext ?_ rfl
    show (((t + d : Nat) : Int)) + (j : Nat) = ((t : Nat) : Int) + ((d + j : Nat) : Int)
    omega
end Sg

set_option Elab.async false
set_option linter.all false
set_option maxRecDepth 100000
set_option maxHeartbeats 4000000
namespace Sg
open PySem PySem.Spec PyProof.Rows L2 StX
section
variable {P : Program} {w : World} {K : PySem.W.Frag} {mg : Str → Option Value} {base : Heap}
def spLFits (K : PySem.W.Frag) : Sp := fun vs H Q _ => ∃ (a b : Addr) (ws : List (List Int)) (lp : List Int), vs = [.ref a, .ref b] ∧ Tp K H (.ref a) (.tuple (tDs ws)) ∧ GoodL ws ∧ SqT K H b (lp.map V.int) ∧ GoodLap ws.length lp ∧ ∀ H' r, Same H H' → (r = true ↔ noClash ws lp) → Q (.bl r) H'
abbrev lfitsN : List Str := ["_law_works_here", "_law_lap_here", "_law_taken", "_law_tick", "_law_work_here", "_law_kind", "_law_step", "_law_at"]
theorem ok_l_fits {f : Addr} {fd : FuncData} {k : Nat} (F : Fun K "_law_fits" "_law_fits" s_l_fits f fd) (m1 : mg "len" = none) (m2 : mg "range" = none) (m3 : mg "max" = none) (m4 : mg "enumerate" = none) :
    FnOk P w K mg base CX0 (k + 1) f fd ["_law_works_here", "_law_lap_here"] (spLFits K) := by
  refine F.ok sc_l_fits (fun vs H Q E h => ?_) (fun cdv A outer s H vs Q E hr h => ?_)
  · obtain ⟨a, b, ws, lp, rfl, _⟩ := h; rfl
  · obtain ⟨a, b, ws, lp, rfl, hW, gw, hS, hg, q⟩ := h
    have hu2 := hu_of hr
    refine ⟨_, pss_cons (ps_set (i := 2) sc_l_fits.nd rfl (.inl rfl) pe_dnewT)
      (pss_cons (ps_for PassesOwn.never rfl (pi_range1 (by rfl) m2 (pa_cons (pe_op op_add (pe_callB call_len_seq (by rfl) m1 PySem.boot_len (pa_cons (pv 1) pa_nil)) (pe_callB (cr_max rfl) (by rfl) m3 (by decide +kernel) (pa_cons
            (pe_lc (own := [("_law_work_here", 4)]) (g := gName 4) (tt := tYes) rfl sc_l_fits.nd (pi_tup (pv 0)) (blkOk_by (N := lfitsN) (sc := defScope s_l_fits) (by decide +kernel))
              (fun _ _ _ _ _ => pg_name (i := 4) sc_l_fits.nd rfl (Or.inl rfl)) (fun _ _ _ _ _ => pts_nil) (fun _ _ _ _ _ => pe_callB (call_lenK (K := K) rfl) (by rfl) m1 PySem.boot_len (pa_cons (pv 4) pa_nil))) pa_nil))) pa_nil)) (pg_name (i := 3) sc_l_fits.nd rfl (.inl rfl))
        (pss_cons (ps_set (i := 5) sc_l_fits.nd rfl (.inl rfl) (pe_ix ix_tup (pv 1) (pe_op op_mod (pv 3) (pe_callB call_len_seq (by rfl) m1 PySem.boot_len (pa_cons (pv 1) pa_nil))) (fun _ _ => rfl)))
        (pss_one (ps_for PassesOwn.never rfl (pi_enumT (by rfl) m4 (pa_cons (pe_ifExp (pt_cmpR op_gt (pv 5) (pe_un un_neg pe_int) (nomark _)) (pe_ix ix_tup (pv 0) (pv 5) (fun _ _ => rfl)) (pe_tup pa_nil)) pa_nil))
            (pg_tup rfl (pgs_cons (pg_name (i := 6) sc_l_fits.nd rfl (.inl rfl)) (pgs_cons (pg_name (i := 7) sc_l_fits.nd rfl (.inl rfl)) pgs_nil)))
          (pss_cons (ps_if (PW.pt (pw_and (pt_cmpR op_gt (pv 7) (pe_un un_neg pe_int) (nomark _)) (pw_and1 (pt_cmp (pc_din hu2 (pe_tup (pa_cons (pe_op op_add (pv 3) (pv 6)) (pa_cons (pv 7) pa_nil))) (pv 2)))))) (pss_one (ps_ret pe_bl)) pss_nil)
          (pss_one (ps_if (pt_cmpR op_gt (pv 7) (pe_un un_neg pe_int) (nomark _)) (pss_one (ps_dput hu2 (pv 2) (pe_tup (pa_cons (pe_op op_add (pv 3) (pv 6)) (pa_cons (pv 7) pa_nil))) pe_bl rfl)) pss_nil)))))))
      (pss_one (ps_ret pe_bl))), ?_⟩
    have ll : (lp.map V.int).length = lp.length := List.length_map _
    have lpos := hg.pos
    have lmost := hg.most
    have few := gw.few
    have least := gw.least
    obtain ⟨_, wv, ew, hSW, hTW⟩ := hW.toTup
    cases ew
    have lwv := hTW.len
    rw [List.length_map] at lwv
    intro d nd
    have e1 : Same H (L2.upd H d (.dT [])) := same_new nd
    have hd1 : (L2.upd H d (.dT [])) d = some (.dT []) := upd_same
    generalize L2.upd H d (.dT []) = H1 at e1 hd1 ⊢
    refine ⟨.ref b, rfl, b, _, rfl, .inr (Same.tup e1 hS), ?_⟩
    refine ⟨.ref a, rfl, a, rfl, ⟨_, Same.tup e1 hSW⟩, fun D hD => ?_⟩
    refine lc_tup (xs := wv) (fun i H' => Same H1 H' ∧ H' D = some (.lst (((ws.take i).map fun w => ((w.length : Nat) : Int)).map V.int))) ⟨same_new hD, upd_same⟩ (fun i H' _ h => Same.tup (e1.trans h.1) hSW) (fun i x H' hx h => ?_) (fun H2 h => ?_)
    · obtain ⟨x', cw, hx', rfl, hcw⟩ := hTW.works hx
      have hi := (List.getElem?_eq_some_iff.mp hx').1
      refine ⟨rfl, .ref cw, rfl, cw, _, rfl, .inr (Same.tup (e1.trans h.1) hcw), _, h.2, ?_, fun u o e => ?_, ?_⟩
      · rw [List.length_map, List.length_map, List.length_take]
        exact small1000 (by omega)
      · rw [upd_ne (ne_of_none e hD)]
        exact h.1 _ _ e
      · rw [upd_same, List.take_add_one, hx', List.map_append, List.map_append, List.length_map]
        rfl
    · obtain ⟨e2, hD2⟩ := h
      rw [lwv, List.take_length] at hD2
      refine ⟨D, _, rfl, .of hD2, by rw [List.length_map]; omega, fun m hm hmax => ?_⟩
      obtain ⟨w0, hw0, em⟩ := List.mem_map.mp hm
      have m60 := (gw.work w0 hw0).most
      obtain ⟨mx, rfl⟩ : ∃ mx : Nat, m = mx := ⟨w0.length, em.symm⟩
      have hmx : ∀ w ∈ ws, w.length ≤ mx := fun w hw => by
        have := hmax _ (List.mem_map.mpr ⟨w, hw, rfl⟩)
        omega
      have mx60 : mx ≤ 60 := by omega
      refine ⟨_, _, rfl, rfl, _, rfl, by omega, by omega, ?_⟩
      have en : ((((lp.map V.int).length : Nat) : Int) + (mx : Nat)).toNat = lp.length + mx := by omega
      have e12 := e1.trans e2
      refine for_range (lo := 0) (n := ((((lp.map V.int).length : Nat) : Int) + (mx : Nat)).toNat) (fun T σ H' => ∃ v3 v4 v5 v6 v7 kvs, σ = [some (.ref a), some (.ref b), some (.ref d), v3, v4, v5, v6, v7] ∧ Same H H' ∧ H' d = some (.dT kvs) ∧
          (∀ p, (valV kvs (keyS p)).isSome = true ↔ takenT ws lp T p) ∧ kvs.length ≤ 60 * T ∧ ∀ t, t < T → ¬ meetL ws lp t)
        ⟨_, _, _, _, _, [], rfl, e12, e2 _ _ hd1, fun p => ⟨fun z => (by simp [valV_nil] at z), fun ⟨t, _, _, z, _⟩ => absurd z (Nat.not_lt_zero _)⟩, Nat.le_refl _, fun t z => absurd z (Nat.not_lt_zero _)⟩ ?_ ?_
      · rintro T σ H3 hT ⟨v3, v4, v5, v6, v7, kvs, rfl, e3, hd3, htk, lkv, hno⟩
        rw [en] at hT
        have hz := itL_at lpos T
        have emod : ((0 : Int) + (T : Nat)) % (((lp.map V.int).length : Nat) : Int) = ((T % lp.length : Nat) : Int) := by rw [ll, Int.zero_add]; first | rfl | exact (Int.natCast_emod T lp.length).symm
        have hS3 := Same.tup e3 hS
        refine ⟨.ref b, rfl, .int (0 + T), rfl, .ref b, rfl, b, _, rfl, .inr hS3, _, _, rfl, rfl, by omega, b, _, _, .int (itL lp T), rfl, rfl, hS3, ?_, ?_⟩
        · rw [emod]
          exact atI_nat (by rw [List.getElem?_map, hz]; rfl)
        have hzi := hg.items _ (List.mem_of_getElem? hz)
        by_cases hz1 : itL lp T = -1
        have hpl : pieceL ws lp T = [] := by unfold pieceL wkL; rw [if_pos hz1]
        refine ⟨.int (itL lp T), rfl, 1, rfl, itL lp T, -1, rfl, rfl, _, rfl, ite2 (fun e => absurd (of_decide_eq_true e) (by omega)) (fun _ => ?_)⟩
        refine ⟨by show 0 ≤ sizeLine; decide, fun c nc => ⟨c, (pieceL ws lp T).map V.int, rfl, by rw [hpl]; exact .of upd_same, ?_⟩⟩
        have e34 : Same H3 (L2.upd H3 c (.tup [])) := same_new nc
        have hc4 : SqT K (L2.upd H3 c (.tup [])) c ((pieceL ws lp T).map V.int) := by rw [hpl]; exact .of upd_same
        generalize L2.upd H3 c (.tup []) = H4 at e34 hc4 ⊢
        have e4 := e3.trans e34
        have hd4 := e34 _ _ hd3
        have lpi : (pieceL ws lp T).length ≤ 60 := by rw [hpl]; exact Nat.zero_le _
        have ipi : ∀ x ∈ pieceL ws lp T, -1 ≤ x := by rw [hpl]; exact fun x y => (nomatch y)
        clear e34 hpl nc
        rotate_left
        obtain ⟨kd, hkd⟩ : ∃ kd : Nat, itL lp T = kd := ⟨(itL lp T).toNat, by omega⟩
        have hkw : kd < ws.length := by omega
        obtain ⟨wy, hwy⟩ : ∃ wy, wv[kd]? = some wy := ⟨wv[kd]'(by omega), List.getElem?_eq_getElem _⟩
        obtain ⟨xw, c, hxw, rfl, hcw⟩ := hTW.works hwy
        have hpl : pieceL ws lp T = xw := by
          unfold pieceL wkL
          rw [if_neg hz1, hkd, Int.toNat_natCast]
          unfold wk
          rw [List.getD_eq_getElem?_getD, hxw]
          rfl
        refine ⟨.int (itL lp T), rfl, 1, rfl, itL lp T, -1, rfl, rfl, _, rfl, ite2 (fun _ => ?_) (fun e => absurd (decide_eq_true (by omega)) e)⟩
        refine ⟨.ref a, rfl, .int (itL lp T), rfl, a, wv, itL lp T, .ref c, rfl, rfl, Same.tup e3 hSW, by rw [hkd]; exact atI_nat hwy, c, (pieceL ws lp T).map V.int, rfl, by rw [hpl]; exact Same.tup e3 hcw, ?_⟩
        have hc4 : SqT K H3 c ((pieceL ws lp T).map V.int) := by rw [hpl]; exact Same.tup e3 hcw
        have e4 := e3
        have hd4 := hd3
        have hw1 := gw.work xw (List.mem_of_getElem? hxw)
        have lpi : (pieceL ws lp T).length ≤ 60 := by rw [hpl]; exact hw1.most
        have ipi : ∀ x ∈ pieceL ws lp T, -1 ≤ x := by rw [hpl]; exact fun x y => (hw1.items x y).1
        clear hpl hw1 hcw hwy hxw hkd hkw
        revert hc4 e4 hd4
        generalize H3 = H4
        intro hc4 e4 hd4
        all_goals
          generalize hpx : pieceL ws lp T = xs at hc4 lpi ipi ⊢
          have lxs : (xs.map V.int).length = xs.length := List.length_map _
          refine for_it (walk_enumT (K := K) (a := c) (xs := xs.map V.int)) (fun m σ H' => ∃ v6 v7 kvs', σ = [some (.ref a), some (.ref b), some (.ref d), some (.int (0 + T)), v4, some (.int (itL lp T)), v6, v7] ∧ Same H H' ∧ SqT K H' c (xs.map V.int) ∧ H' d = some (.dT kvs') ∧
              (∀ p, (valV kvs' (keyS p)).isSome = true ↔ takenT ws lp T p ∨ ∃ (j : Nat) (st : Int), j < m ∧ xs[j]? = some st ∧ st ≠ -1 ∧ p = (((T : Nat) : Int) + (j : Nat), st)) ∧ kvs'.length ≤ 60 * T + m ∧
              ∀ (j : Nat) (st : Int), j < m → xs[j]? = some st → st ≠ -1 → ¬ takenT ws lp T (((T : Nat) : Int) + (j : Nat), st))
            ⟨_, _, kvs, rfl, e4, hc4, hd4, fun p => by rw [htk p]; exact ⟨.inl, fun y => y.elim id fun ⟨_, _, y, _⟩ => absurd y (Nat.not_lt_zero _)⟩, lkv, fun j st y => absurd y (Nat.not_lt_zero _)⟩
            (fun m σ H' _ h => ?_) (fun m x σ H5 H6 hm h hY => ?_) (fun σ H5 h => ?_)
          · obtain ⟨_, _, _, _, _, h, _⟩ := h
            exact h
          · obtain ⟨v6', v7', kvs', rfl, e5, hc5, hd5, ht5, lk5, hn5⟩ := h
            obtain ⟨T2, z1, z2, rfl, nT2, rfl, k1, k2⟩ := hY
            dsimp only at k1 k2
            cases k1
            rw [List.getElem?_map] at k2
            obtain ⟨s0, hs0, rfl⟩ := Option.map_eq_some_iff.mp k2
            have hm2 := (List.getElem?_eq_some_iff.mp hs0).1
            have hs1 := ipi s0 (List.mem_of_getElem? hs0)
            have s2 : Same H5 (L2.upd H5 T2 (.tup [V.int (m : Nat), .int s0])) := same_new nT2
            refine ⟨T2, _, rfl, .of upd_same, rfl, _, _, rfl, _, _, rfl, rfl, ?_⟩
            have e6 := e5.trans s2
            have hc6 := Same.tup s2 hc5
            have hd6 := s2 _ _ hd5
            generalize L2.upd H5 T2 (.tup [V.int (m : Nat), .int s0]) = H7 at e6 hc6 hd6 ⊢
            have eT : ∀ u : Int, (0 : Int) + (T : Nat) + u = ((T : Nat) : Int) + u := fun u => by rw [Int.zero_add]
            refine ⟨.int s0, rfl, 1, rfl, s0, -1, rfl, rfl, _, rfl, ite2 (fun e => ?_) (fun e => ?_)⟩
            · have hst : s0 ≠ -1 := fun y => by
                have := of_decide_eq_true e
                omega
              refine ⟨.int (0 + T), rfl, .int (m : Nat), rfl, 0 + T, (m : Nat), rfl, rfl, .int s0, rfl, by show 2 ≤ sizeLine; decide, fun bq nbq => ?_⟩
              have eb : Same H7 (L2.upd H7 bq (.tup [V.int (0 + (T : Nat) + (m : Nat)), .int s0])) := same_new nbq
              have hb : (L2.upd H7 bq (.tup [V.int (0 + (T : Nat) + (m : Nat)), .int s0])) bq = some (.tup ((keyS (0 + (T : Nat) + (m : Nat), s0)).map kV)) := upd_same
              generalize L2.upd H7 bq (.tup [V.int (0 + (T : Nat) + (m : Nat)), .int s0]) = H8 at eb hb ⊢
              have e8 := e6.trans eb
              have hc8 := Same.tup eb hc6
              have hd8 := eb _ _ hd6
              have own : ¬ ∃ (j : Nat) (st : Int), j < m ∧ xs[j]? = some st ∧ st ≠ -1 ∧ ((0 : Int) + (T : Nat) + (m : Nat), s0) = (((T : Nat) : Int) + (j : Nat), st) := by
                rintro ⟨j, st, y1, _, _, y2⟩
                have := congrArg Prod.fst y2
                simp only at this
                omega
              refine ⟨.ref d, rfl, d, _, rfl, DGet.t hd8 hb, _, rfl, ite2 (fun e2 => ?_) (fun e2 => ?_)⟩
              · refine q H8 false e8 ⟨fun y => (nomatch y), fun y => ?_⟩
                exfalso
                refine y ?_
                rw [← meetL_clash gw hg hmx]
                refine ⟨T, hT, m, s0, by rw [hpx]; exact hs0, hst, ?_⟩
                rcases (ht5 _).mp e2 with u | u
                · rw [eT] at u
                  exact u
                · exact absurd u own
              · have hnt : ¬ takenT ws lp T (((T : Nat) : Int) + (m : Nat), s0) := fun y => e2 ((ht5 _).mpr (.inl (by rw [eT]; exact y)))
                refine ⟨.int s0, rfl, 1, rfl, s0, -1, rfl, rfl, _, rfl, ite2 (fun _ => ?_) (fun e3 => absurd e e3)⟩
                refine ⟨.ref d, rfl, .int (0 + T), rfl, .int (m : Nat), rfl, 0 + T, (m : Nat), rfl, rfl, .int s0, rfl, by show 2 ≤ sizeLine; decide, fun bq2 nbq2 => ?_⟩
                have eb2 : Same H8 (L2.upd H8 bq2 (.tup [V.int (0 + (T : Nat) + (m : Nat)), .int s0])) := same_new nbq2
                have hb2 : (L2.upd H8 bq2 (.tup [V.int (0 + (T : Nat) + (m : Nat)), .int s0])) bq2 = some (.tup ((keyS (0 + (T : Nat) + (m : Nat), s0)).map kV)) := upd_same
                generalize L2.upd H8 bq2 (.tup [V.int (0 + (T : Nat) + (m : Nat)), .int s0]) = H9 at eb2 hb2 ⊢
                have e9 := e8.trans eb2
                have hd9 := eb2 _ _ hd8
                have hc9 := Same.tup eb2 hc8
                have lkk : kvs'.length < sizeLine := by
                  have a4 : 100000 < sizeLine := by rw [sizeLine_eq]; decide
                  omega
                refine ⟨d, _, rfl, .inr ⟨kvs', keyS (0 + (T : Nat) + (m : Nat), s0), bq2, hd9, rfl, hb2, lkk, rfl⟩, _, _, _, rfl, fun y o g => ?_, tup_upd hd9 (fun _ z => nomatch z) (fun _ _ z => nomatch z) hc9, upd_same, fun p => ?_, ?_, fun j st y1 y2 y3 => ?_⟩
                · rw [upd_ne (ne_of_none g nd)]
                  exact e9 _ _ g
                · rw [valV_put]
                  by_cases hp : keyS p = keyS (0 + (T : Nat) + (m : Nat), s0)
                  · rw [if_pos hp]
                    refine ⟨fun _ => .inr ⟨m, s0, Nat.lt_succ_self _, hs0, hst, ?_⟩, fun _ => rfl⟩
                    rw [← eT]
                    exact keyS_inj hp
                  · rw [if_neg hp, ht5 p]
                    constructor
                    · rintro (u | ⟨j, st, u1, u2⟩)
                      · exact .inl u
                      · exact .inr ⟨j, st, by omega, u2⟩
                    · rintro (u | ⟨j, st, u1, u2, u3, u4⟩)
                      · exact .inl u
                      · by_cases hj : j < m
                        · exact .inr ⟨j, st, hj, u2, u3, u4⟩
                        · have hjm : j = m := by omega
                          subst hjm
                          rw [hs0] at u2
                          cases u2
                          exact absurd (congrArg keyS (u4.trans (by rw [← eT]))) hp
                · have := length_putK kvs' (keyS (0 + (T : Nat) + (m : Nat), s0)) (V.bl true)
                  omega
                · by_cases hj : j < m
                  · exact hn5 j st hj y2 y3
                  · have hjm : j = m := by omega
                    subst hjm
                    rw [hs0] at y2
                    cases y2
                    exact hnt
            · have hst : s0 = -1 := by
                have : ¬ s0 > -1 := fun y => e (decide_eq_true y)
                omega
              refine iteF ⟨.int s0, rfl, 1, rfl, s0, -1, rfl, rfl, _, rfl, ite2 (fun e3 => absurd e3 e) (fun _ => ?_)⟩
              refine ⟨_, _, kvs', rfl, e6, hc6, hd6, fun p => ?_, by omega, fun j st y1 y2 y3 => ?_⟩
              · rw [ht5 p]
                constructor
                · rintro (u | ⟨j, st, u1, u2⟩)
                  · exact .inl u
                  · exact .inr ⟨j, st, by omega, u2⟩
                · rintro (u | ⟨j, st, u1, u2, u3, u4⟩)
                  · exact .inl u
                  · by_cases hj : j < m
                    · exact .inr ⟨j, st, hj, u2, u3, u4⟩
                    · have hjm : j = m := by omega
                      subst hjm
                      rw [hs0] at u2
                      cases u2
                      exact absurd hst u3
              · by_cases hj : j < m
                · exact hn5 j st hj y2 y3
                · have hjm : j = m := by omega
                  subst hjm
                  rw [hs0] at y2
                  cases y2
                  exact absurd hst y3
          · obtain ⟨v6', v7', kvs', rfl, e5, hc5, hd5, ht5, lk5, hn5⟩ := h
            rw [lxs] at ht5 lk5 hn5
            refine ⟨_, _, _, _, _, kvs', rfl, e5, hd5, fun p => ?_, by omega, fun t ht => ?_⟩
            · rw [ht5 p]
              constructor
              · rintro (⟨t, j, st, u1, u2, u3, u4⟩ | ⟨j, st, u1, u2, u3, u4⟩)
                · exact ⟨t, j, st, by omega, u2, u3, u4⟩
                · exact ⟨T, j, st, by omega, by rw [hpx]; exact u2, u3, u4⟩
              · rintro ⟨t, j, st, u1, u2, u3, u4⟩
                by_cases htT : t < T
                · exact .inl ⟨t, j, st, htT, u2, u3, u4⟩
                · have : t = T := by omega
                  subst this
                  rw [hpx] at u2
                  exact .inr ⟨j, st, (List.getElem?_eq_some_iff.mp u2).1, u2, u3, u4⟩
            · by_cases htT : t < T
              · exact hno t htT
              · have : t = T := by omega
                subst this
                rintro ⟨j, st, u1, u2, u3⟩
                rw [hpx] at u1
                exact hn5 j st (List.getElem?_eq_some_iff.mp u1).1 u1 u2 u3
      · rintro σ H3 ⟨v3, v4, v5, v6, v7, kvs, rfl, e3, hd3, htk, lkv, hno⟩
        rw [en] at hno
        refine q H3 true e3 ⟨fun _ => ?_, fun _ => rfl⟩
        unfold noClash
        rw [← meetL_clash gw hg hmx]
        rintro ⟨T, h1, h2⟩
        exact hno T h1 h2
end
end Sg

set_option Elab.async false
set_option linter.all false
set_option maxRecDepth 100000
set_option maxHeartbeats 4000000
namespace Sg
open PySem PySem.Spec PyProof.Rows L2 StX
theorem PenAt.new {H : Hp} {p l : Addr} {o : HO} (h : PenAt H p) (n : H l = none) : PenAt (L2.upd H l o) p := h.upd (h.ne n)
section
variable {P : Program} {w : World} {K : PySem.W.Frag} {mg : Str → Option Value} {base : Heap}
/-! ### _law_low -/
def spLow (K : PySem.W.Frag) : Sp := fun vs H Q _ => ∃ a b : Nat, vs = [.int (a : Nat), .int (b : Nat)] ∧ 0 < b ∧ b ≤ 900 ∧ ∀ H' p, Same H H' → SqT K H' p ((fracL (a : Nat) (b : Nat)).map V.int) → Q (.ref p) H'
theorem ok_low {f : Addr} {fd : FuncData} {k : Nat} (F : Fun K "_law_low" "_law_low" s_l_low f fd) : FnOk P w K mg base CX0 (k + 1) f fd ["_law_top", "_law_bottom"] (spLow K) := by
  refine F.ok sc_l_low (fun vs H Q E h => ?_) (fun cdv A outer s H vs Q E hr h => ?_)
  · obtain ⟨a, b, rfl, _⟩ := h; rfl
  · obtain ⟨a, b, rfl, hb, hb2, q⟩ := h
    refine ⟨_, pss_cons (ps_par (i := 2) (j := 3) (by rfl) sc_l_low.nd rfl rfl (by decide) rfl rfl (pa_cons (pv 0) (pa_cons (pv 1) pa_nil)) (by rfl))
      (pss_cons (ps_while PassesOwn.never (pt_cmpR op_gt (pv 2) pe_int (nomark _))
        (pss_one (ps_par (i := 2) (j := 3) (by rfl) sc_l_low.nd rfl rfl (by decide) rfl rfl (pa_cons (pe_op op_mod (pv 3) (pv 2)) (pa_cons (pv 2) pa_nil)) (by rfl))))
      (pss_one (ps_ret (pe_tup (pa_cons (pe_op op_fdiv (pv 0) (pv 3)) (pa_cons (pe_op op_fdiv (pv 1) (pv 3)) pa_nil)))))), ?_⟩
    refine ⟨.int (a : Nat), rfl, .int (b : Nat), rfl, _, _, rfl, ?_⟩
    refine ⟨fun n σ H' => ∃ x y : Nat, σ = [some (.int (a : Nat)), some (.int (b : Nat)), some (.int (x : Nat)), some (.int (y : Nat))] ∧ H' = H ∧ 0 < y ∧ Nat.gcd x y = Nat.gcd a b ∧ n = x, ⟨_, _, _, rfl, rfl, hb, rfl, rfl⟩, ?_⟩
    rintro x σ H1 ⟨_, y, rfl, rfl, hy, hgcd, rfl⟩
    refine ⟨.int (x : Nat), rfl, (x : Nat), 0, rfl, rfl, _, rfl, ite2 (fun e => ?_) (fun e => ?_)⟩
    · have hx : 0 < x := by
        have := of_decide_eq_true e
        omega
      have em : (((y : Nat) : Int)) % ((x : Nat) : Int) = ((y % x : Nat) : Int) := by first | rfl | exact (Int.natCast_emod y x).symm
      refine ⟨fun σ' H'' => σ' = [some (.int (a : Nat)), some (.int (b : Nat)), some (.int ((y % x : Nat) : Int)), some (.int (x : Nat))] ∧ H'' = H1, fun σ' H'' ⟨e1, e2⟩ => ⟨_, Nat.mod_lt y hx, y % x, x, e1, e2, hx, by rw [← Nat.gcd_rec]; exact hgcd, rfl⟩, ?_⟩
      refine ⟨.int (y : Nat), rfl, .int (x : Nat), rfl, (y : Nat), (x : Nat), rfl, rfl, by omega, .int (x : Nat), rfl, _, _, rfl, ?_, rfl⟩
      exact congrArg (fun z : Int => [some (V.int (a : Nat)), some (V.int (b : Nat)), some (V.int z), some (V.int (x : Nat))]) em
    · have hx : x = 0 := by
        have : ¬ ((x : Nat) : Int) > 0 := fun z => e (decide_eq_true z)
        omega
      subst hx
      rw [Nat.gcd_zero_left] at hgcd
      have hle : Nat.gcd a b ≤ b := Nat.gcd_le_right _ hb
      refine ⟨.int (a : Nat), rfl, .int (y : Nat), rfl, (a : Nat), (y : Nat), rfl, rfl, ⟨by omega, by omega⟩, .int (b : Nat), rfl, .int (y : Nat), rfl, (b : Nat), (y : Nat), rfl, rfl, ⟨by omega, by omega⟩, by show 2 ≤ sizeLine; decide, fun p np => ?_⟩
      refine q _ p (same_new np) ?_
      have ef : fracL (a : Nat) (b : Nat) = [((a : Nat) : Int) / ((y : Nat) : Int), ((b : Nat) : Int) / ((y : Nat) : Int)] := by
        unfold fracL
        rw [Int.natAbs_natCast, Int.natAbs_natCast, ← hgcd]
      rw [ef]
      exact .of upd_same
/-! ### _law_mean -/
def spLMean (K : PySem.W.Frag) : Sp := fun vs H Q _ => ∃ (b c : Addr) (n : Nat) (lp wt : List Int), vs = [.ref b, .ref c] ∧ SqT K H b (lp.map V.int) ∧ GoodLap n lp ∧ SqT K H c (wt.map V.int) ∧ GoodWt n wt ∧ ∀ H' p, Same H H' → SqT K H' p ((fracL (gainN wt lp) lp.length).map V.int) → Q (.ref p) H'
theorem gain_snoc (wt : List Int) (lp : List Int) (x : Int) : gainN wt (lp ++ [x]) = gainN wt lp + worthN wt x := by
  unfold gainN
  rw [List.map_append, List.sum_append]
  simp
theorem gain_pos {n : Nat} {wt : List Int} (hw : GoodWt n wt) : ∀ lp : List Int, 0 ≤ gainN wt lp
  | [] => Int.le_refl _
  | x :: r => by
    have h1 := gain_pos hw r
    have h2 : 0 ≤ worthN wt x := by
      unfold worthN
      split
      · exact Int.le_refl _
      · rw [List.getD_eq_getElem?_getD]
        cases e : wt[x.toNat]? with
        | none => exact Int.le_refl _
        | some y => exact (hw.items y (List.mem_of_getElem? e)).1
    show 0 ≤ (worthN wt x :: r.map (worthN wt)).sum
    rw [List.sum_cons]
    unfold gainN at h1
    omega
theorem ok_l_mean {f f1 : Addr} {fd fd1 : FuncData} {k : Nat} (F : Fun K "_law_mean" "_law_mean" s_l_mean f fd)
    (G1 : FnOk P w K mg base CX0 k f1 fd1 ["_law_top", "_law_bottom"] (spLow K)) (kp1 : PySem.W.keepIn K (.ref f1) = true) (b1 : Binds K fd1 ["_law_top", "_law_bottom"] []) (g1 : mg "_law_low" = some (.ref f1))
    (m1 : mg "sum" = none) (m2 : mg "len" = none) : FnOk P w K mg base CX0 (k + 1) f fd ["_law_lap_here", "_law_worths_here"] (spLMean K) := by
  refine F.ok sc_l_mean (fun vs H Q E h => ?_) (fun cdv A outer s H vs Q E hr h => ?_)
  · obtain ⟨b, c, n, lp, wt, rfl, _⟩ := h; rfl
  · obtain ⟨b, c, n, lp, wt, rfl, hS, hg, hT, hw, q⟩ := h
    refine ⟨_, pss_one (ps_ret (pe_call G1 hr (by rfl) g1 kp1 b1 .nil pass0 (pa_cons (pe_callB (cr_sum rfl) (by rfl) m1 (by decide +kernel) (pa_cons
        (pe_lc (own := [("_law_one", 2)]) (g := gName 2) rfl sc_l_mean.nd (pi_tup (pv 0)) (blkOk_by (N := ["_law_lap_here", "_law_worths_here", "_law_one"]) (sc := defScope s_l_mean) (by decide +kernel))
          (fun _ _ _ _ _ => pg_name (i := 2) sc_l_mean.nd rfl (Or.inl rfl)) (fun _ _ _ _ _ => pts_one (pt_cmpR op_gt (pv 2) (pe_un un_neg pe_int) (nomark _)))
          (fun _ _ _ _ _ => pe_ix (ix_tupK (K := K) rfl) (pv 1) (pv 2) (fun _ _ => rfl))) pa_nil)) (pa_cons (pe_callB call_len_seq (by rfl) m2 PySem.boot_len (pa_cons (pv 0) pa_nil)) pa_nil)))), ?_⟩
    have ll : (lp.map V.int).length = lp.length := List.length_map _
    have l1 := hg.pos
    have l2 := hg.most
    have lw := hw.len
    refine ⟨.ref b, rfl, b, rfl, ⟨_, hS⟩, fun D hD => ?_⟩
    refine lc_tup (xs := lp.map V.int) (fun i H' => Same H H' ∧ ∃ ns : List Int, H' D = some (.lst (ns.map V.int)) ∧ ns.length ≤ i ∧ ns.sum = gainN wt (lp.take i)) ⟨same_new hD, [], upd_same, Nat.le_refl _, rfl⟩ (fun i H' _ h => Same.tup h.1 hS) (fun i x H' hx h => ?_) (fun H' h => ?_)
    · obtain ⟨e1, ns, hD1, ln, hs⟩ := h
      rw [List.getElem?_map] at hx
      obtain ⟨z, hz, rfl⟩ := Option.map_eq_some_iff.mp hx
      have hi := (List.getElem?_eq_some_iff.mp hz).1
      obtain ⟨z1, z2⟩ := hg.items z (List.mem_of_getElem? hz)
      have et : lp.take (i + 1) = lp.take i ++ [z] := by rw [List.take_add_one, hz]; rfl
      refine ⟨rfl, .int z, rfl, 1, rfl, z, -1, rfl, rfl, _, rfl, ite2 (fun e => ?_) (fun e => ?_)⟩
      · have hz0 : z ≠ -1 := fun y => by
          have := of_decide_eq_true e
          omega
        obtain ⟨j, rfl⟩ : ∃ j : Nat, z = j := ⟨z.toNat, by omega⟩
        have hj : j < wt.length := by omega
        refine ⟨.ref c, rfl, .int (j : Nat), rfl, c, _, (j : Nat), .int wt[j], rfl, rfl, Same.tup e1 hT, atI_nat (by rw [List.getElem?_map, List.getElem?_eq_getElem hj]; rfl), ?_⟩
        refine ⟨_, hD1, ?_, fun u o g => ?_, ns ++ [wt[j]], ?_, ?_, ?_⟩
        · rw [List.length_map]
          exact small1000 (by omega)
        · rw [upd_ne (ne_of_none g hD)]
          exact e1 _ _ g
        · rw [upd_same, List.map_append]
          rfl
        · rw [List.length_append]
          show ns.length + 1 ≤ i + 1
          omega
        · rw [et, gain_snoc, List.sum_append, hs]
          unfold worthN
          rw [if_neg hz0, Int.toNat_natCast, List.getD_eq_getElem?_getD, List.getElem?_eq_getElem hj]
          simp
      · have hz0 : z = -1 := by
          have : ¬ z > -1 := fun y => e (decide_eq_true y)
          omega
        refine ⟨e1, ns, hD1, by omega, ?_⟩
        rw [et, gain_snoc, hs]
        unfold worthN
        rw [if_pos hz0]
        omega
    · obtain ⟨e1, ns, hD1, ln, hs⟩ := h
      rw [ll, List.take_length] at hs
      obtain ⟨g, hgn⟩ : ∃ g : Nat, gainN wt lp = g := ⟨(gainN wt lp).toNat, by have := gain_pos hw lp; omega⟩
      refine ⟨D, ns, rfl, .of hD1, .ref b, rfl, b, _, rfl, .inr (Same.tup e1 hS), g, lp.length, ?_, by omega, by omega, fun H2 p e2 hp => ?_⟩
      · rw [hs, hgn, ll]
        rfl
      · refine q H2 p (e1.trans e2) ?_
        rw [hgn]
        exact hp
end
end Sg

set_option Elab.async false
set_option linter.all false
set_option maxRecDepth 100000
set_option maxHeartbeats 4000000
namespace Sg
open PySem PySem.Spec PyProof.Rows L2 StX
section
variable {P : Program} {w : World} {K : PySem.W.Frag} {mg : Str → Option Value} {base : Heap}
/-! ### _law_lap -/
def spLLap (K : PySem.W.Frag) : Sp := fun vs H Q _ => ∃ (p : Addr) (n : Nat) (most : Int), vs = [.ref p, .int (n : Nat), .int most] ∧ PenAt H p ∧ 1 ≤ n ∧ n ≤ 3 ∧ 1 ≤ most ∧ most ≤ 100 ∧
  ∀ H' t lp, PenAt H' p → But p H H' → H t = none → SqT K H' t (lp.map V.int) → GoodLap n lp → lp.length ≤ 100 → Q (.ref t) H'
theorem ok_l_lap {f f1 : Addr} {fd fd1 : FuncData} {k : Nat} (F : Fun K "_law_lap" "_law_lap" s_l_lap f fd)
    (G1 : FnOk P w K mg base CX0 k f1 fd1 ["_law_pen_here", "_law_many"] spDraw) (kp1 : PySem.W.keepIn K (.ref f1) = true) (b1 : Binds K fd1 ["_law_pen_here", "_law_many"] []) (g1 : mg "_law_draw" = some (.ref f1))
    (m1 : mg "range" = none) (m2 : mg "tuple" = none) : FnOk P w K mg base CX0 (k + 1) f fd ["_law_pen_here", "_law_many", "_law_most"] (spLLap K) := by
  refine F.ok sc_l_lap (fun vs H Q E h => ?_) (fun cdv A outer s H vs Q E hr h => ?_)
  · obtain ⟨p, n, most, rfl, _⟩ := h; rfl
  · obtain ⟨p, n, most, rfl, hp, n1, n2, ms1, ms2, q⟩ := h
    refine ⟨_, pss_cons (ps_set (i := 3) sc_l_lap.nd rfl (.inr rfl) (pe_op op_add pe_int (pe_call G1 hr (by rfl) g1 kp1 b1 .nil pass0 (pa_cons (pv 0) (pa_cons pe_int pa_nil)))))
      (pss_cons (ps_setLc (i := 4) (own := [("_law_turn", 5)]) (g := gName 5) (tt := tYes) rfl sc_l_lap.nd rfl rfl (sw_true rfl rfl rfl (by decide +kernel)) (pi_range1 (by rfl) m1 (pa_cons (pe_op op_add pe_int (pe_call G1 hr (by rfl) g1 kp1 b1 .nil pass0 (pa_cons (pv 0) (pa_cons (pv 2) pa_nil)))) pa_nil))
          (blkOk_by (N := ["_law_pen_here", "_law_many", "_law_most", "_law_share", "_law_some", "_law_turn"]) (sc := defScope s_l_lap) (by decide +kernel))
          (fun _ _ _ _ _ => pg_name (i := 5) sc_l_lap.nd rfl (Or.inl rfl)) (fun _ _ _ _ _ => pts_nil)
          (fun _ _ _ _ _ => pe_ifExp (pt_cmpR op_eq (pe_call G1 hr (by rfl) g1 kp1 b1 .nil pass0 (pa_cons (pv 0) (pa_cons (pv 3) pa_nil))) pe_int (nomark _))
            (pe_call G1 hr (by rfl) g1 kp1 b1 .nil pass0 (pa_cons (pv 0) (pa_cons (pv 1) pa_nil))) (pe_un un_neg pe_int)))
      (pss_one (ps_ret (pe_callTy call_tuple_of (by rfl) m2 (by decide +kernel) (pa_cons (pv 4) pa_nil))))), ?_⟩
    refine ⟨.ref p, rfl, p, 4, rfl, hp, by decide, by decide, fun H1 sh s0 s1 p1 c1 => ⟨1, sh, rfl, rfl, ?_⟩⟩
    refine ⟨.ref p, rfl, .int most, rfl, p, most, rfl, p1, by omega, by omega, fun H2 r r0 r1 p2 c2 => ⟨1, r, rfl, rfl, 1 + r, rfl, by omega, by omega, fun D hD => ?_⟩⟩
    have c12 := c1.trans c2
    have nDp : D ≠ p := (p2.ne hD).symm
    have hDH : H D = none := hp.free p2 c12 hD
    refine lc_range (lo := 0) (n := (1 + r).toNat) (fun i H' => PenAt H' p ∧ But p H H' ∧ ∃ ns : List Int, ns.length = i ∧ (∀ x ∈ ns, -1 ≤ x ∧ x < n) ∧ H' D = some (.lst (ns.map V.int)))
      ⟨p2.new hD, c12.trans (.of (same_new hD)), [], rfl, (fun x hx => (nomatch hx)), upd_same⟩ (fun i H' hi h => ?_) (fun H' h => ?_)
    · obtain ⟨p4, c4, ns, hlen, hall, hDl⟩ := h
      refine ⟨rfl, ?_⟩
      have fin : ∀ (H'' : Hp) (z : Int), PenAt H'' p → But p H' H'' → -1 ≤ z → z < n → ∃ acc, H'' D = some (.lst acc) ∧ acc.length < sizeLine ∧
          (PenAt (L2.upd H'' D (.lst (acc ++ [V.int z]))) p ∧ But p H (L2.upd H'' D (.lst (acc ++ [V.int z]))) ∧ ∃ ns : List Int, ns.length = i + 1 ∧ (∀ x ∈ ns, -1 ≤ x ∧ x < n) ∧ (L2.upd H'' D (.lst (acc ++ [V.int z]))) D = some (.lst (ns.map V.int))) := by
        intro H'' z p5 c5 z1 z2
        refine ⟨_, c5 _ _ nDp hDl, ?_, p5.upd nDp.symm, fun b o nb e => ?_, ns ++ [z], ?_, fun x hx => ?_, ?_⟩
        · rw [List.length_map]
          exact small1000 (by omega)
        · rw [upd_ne (ne_of_none e hDH)]
          exact c5 _ _ nb (c4 _ _ nb e)
        · rw [List.length_append, hlen]
          rfl
        · rcases List.mem_append.mp hx with y | y
          · exact hall x y
          · rw [List.mem_singleton.mp y]; exact ⟨z1, z2⟩
        · rw [upd_same, List.map_append]; rfl
      refine ⟨.ref p, rfl, .int (1 + sh), rfl, p, 1 + sh, rfl, p4, by omega, by omega, fun H5 r' _ _ p5 c5 => ⟨rfl, _, rfl, ite2 (fun _ => ?_) (fun _ => ?_)⟩⟩
      · exact ⟨.ref p, rfl, .int (n : Nat), rfl, p, (n : Nat), rfl, p5, by omega, by omega, fun H6 r2 d1 d2 p6 c6 => fin H6 r2 p6 (c5.trans c6) (by omega) d2⟩
      · exact ⟨1, rfl, fin H5 (-1) p5 c5 (by omega) (by omega)⟩
    · obtain ⟨p4, c4, ns, hlen, hall, hDl⟩ := h
      refine ⟨.ref D, rfl, D, _, rfl, .inl ⟨.of hDl, fun t nt => ?_⟩⟩
      exact q _ t ns (p4.new nt) (c4.trans (.of (same_new nt))) (hp.free p4 c4 nt) (.of upd_same) ⟨by omega, by omega, hall⟩ (by omega)
/-! ### _law_worths -/
def spLWt (K : PySem.W.Frag) : Sp := fun vs H Q _ => ∃ (p : Addr) (n : Nat), vs = [.ref p, .int (n : Nat)] ∧ PenAt H p ∧ 1 ≤ n ∧ n ≤ 3 ∧
  ∀ H' t wt, PenAt H' p → But p H H' → H t = none → SqT K H' t (wt.map V.int) → GoodWt n wt → Q (.ref t) H'
theorem sum_pos : ∀ {ns : List Int}, (∀ x ∈ ns, 0 ≤ x) → ∀ {y : Int}, y ∈ ns → 0 < y → 0 < ns.sum
  | [], _, y, h, _ => nomatch h
  | a :: r, h, y, hy, h0 => by
    have h1 : 0 ≤ r.sum := by
      have : ∀ l : List Int, (∀ x ∈ l, 0 ≤ x) → 0 ≤ l.sum := by
        intro l
        induction l with
        | nil => intro _; exact Int.le_refl _
        | cons b l ih =>
          intro hl
          rw [List.sum_cons]
          have := ih fun x hx => hl x (List.mem_cons_of_mem _ hx)
          have := hl b List.mem_cons_self
          omega
      exact this r fun x hx => h x (List.mem_cons_of_mem _ hx)
    have ha := h a List.mem_cons_self
    rw [List.sum_cons]
    rcases List.mem_cons.mp hy with rfl | hy
    · omega
    · have := sum_pos (fun x hx => h x (List.mem_cons_of_mem _ hx)) hy h0
      omega
theorem ok_l_worths {f f1 f2 : Addr} {fd fd1 fd2 : FuncData} {k : Nat} (F : Fun K "_law_worths" "_law_worths" s_l_worths f fd)
    (G1 : FnOk P w K mg base CX0 k f1 fd1 ["_law_pen_here", "_law_many"] spDraw) (kp1 : PySem.W.keepIn K (.ref f1) = true) (b1 : Binds K fd1 ["_law_pen_here", "_law_many"] []) (g1 : mg "_law_draw" = some (.ref f1))
    (G2 : FnOk P w K mg base CX0 k f2 fd2 ["_law_pen_here", "_law_some"] spPick) (kp2 : PySem.W.keepIn K (.ref f2) = true) (b2 : Binds K fd2 ["_law_pen_here", "_law_some"] []) (g2 : mg "_law_pick" = some (.ref f2))
    (m1 : mg "range" = none) (m2 : mg "tuple" = none) : FnOk P w K mg base CX0 (k + 1) f fd ["_law_pen_here", "_law_many"] (spLWt K) := by
  refine F.ok sc_l_worths (fun vs H Q E h => ?_) (fun cdv A outer s H vs Q E hr h => ?_)
  · obtain ⟨p, n, rfl, _⟩ := h; rfl
  · obtain ⟨p, n, rfl, hp, n1, n2, q⟩ := h
    refine ⟨_, pss_cons (ps_setLc (i := 2) (own := [("_law_turn", 3)]) (g := gName 3) (tt := tYes) rfl sc_l_worths.nd rfl rfl (sw_true rfl rfl rfl (by decide +kernel)) (pi_range1 (by rfl) m1 (pa_cons (pv 1) pa_nil))
          (blkOk_by (N := ["_law_pen_here", "_law_many", "_law_some", "_law_turn"]) (sc := defScope s_l_worths) (by decide +kernel))
          (fun _ _ _ _ _ => pg_name (i := 3) sc_l_worths.nd rfl (Or.inl rfl)) (fun _ _ _ _ _ => pts_nil)
          (fun _ _ _ _ _ => pe_call G2 hr (by rfl) g2 kp2 b2 .nil pass0 (pa_cons (pv 0) (pa_cons (pe_lst (pa_cons pe_int (pa_cons pe_int (pa_cons pe_int (pa_cons pe_int (pa_cons pe_int (pa_cons pe_int (pa_cons pe_int pa_nil)))))))) pa_nil))))
      (pss_cons (ps_asg (pe_op op_add pe_int (pe_call G1 hr (by rfl) g1 kp1 b1 .nil pass0 (pa_cons (pv 0) (pa_cons pe_int pa_nil)))) (pg_sub (pv 2) (pe_call G1 hr (by rfl) g1 kp1 b1 .nil pass0 (pa_cons (pv 0) (pa_cons (pv 1) pa_nil))) set_list))
      (pss_one (ps_ret (pe_callTy call_tuple_of (by rfl) m2 (by decide +kernel) (pa_cons (pv 2) pa_nil))))), ?_⟩
    refine ⟨.int (n : Nat), rfl, (n : Nat), rfl, by omega, by omega, fun D hD => ?_⟩
    have nDp : D ≠ p := (hp.ne hD).symm
    refine lc_range (lo := 0) (n := ((n : Nat) : Int).toNat) (fun i H' => PenAt H' p ∧ But p H H' ∧ ∃ ns : List Int, ns.length = i ∧ (∀ x ∈ ns, 0 ≤ x ∧ x ≤ 20) ∧ H' D = some (.lst (ns.map V.int)))
      ⟨hp.new hD, .of (same_new hD), [], rfl, (fun x hx => (nomatch hx)), upd_same⟩ (fun i H' hi h => ?_) (fun H' h => ?_)
    · obtain ⟨p4, c4, ns, hlen, hall, hDl⟩ := h
      refine ⟨rfl, .ref p, rfl, by show 7 ≤ sizeLine; decide, fun l nl => ⟨p, l, [0, 1, 1, 2, 3, 5, 20], rfl, p4.new nl, (p4.ne nl).symm, upd_same, by decide, by decide, fun H5 z hz p5 b5 => ?_⟩⟩
      have c5 : But p H' H5 := (But.of (same_new nl)).trans b5
      have hz1 : 0 ≤ z ∧ z ≤ 20 := by
        have : ∀ y ∈ ([0, 1, 1, 2, 3, 5, 20] : List Int), 0 ≤ y ∧ y ≤ 20 := by decide
        exact this z hz
      refine ⟨_, c5 _ _ nDp hDl, ?_, p5.upd nDp.symm, fun b o nb e => ?_, ns ++ [z], ?_, fun x hx => ?_, ?_⟩
      · rw [List.length_map]
        exact small1000 (by omega)
      · rw [upd_ne (ne_of_none e hD)]
        exact c5 _ _ nb (c4 _ _ nb e)
      · rw [List.length_append, hlen]
        rfl
      · rcases List.mem_append.mp hx with y | y
        · exact hall x y
        · rw [List.mem_singleton.mp y]; exact hz1
      · rw [upd_same, List.map_append]; rfl
    · obtain ⟨p4, c4, ns, hlen, hall, hDl⟩ := h
      rw [Int.toNat_natCast] at hlen
      refine ⟨.ref p, rfl, p, 20, rfl, p4, by decide, by decide, fun H5 r r0 r1 p5 c5 => ⟨1, r, rfl, rfl, ?_⟩⟩
      refine ⟨.ref D, rfl, .ref p, rfl, .int (n : Nat), rfl, p, (n : Nat), rfl, p5, by omega, by omega, fun H6 j j0 j1 p6 c6 => ?_⟩
      obtain ⟨jn, rfl⟩ : ∃ jn : Nat, j = jn := ⟨j.toNat, by omega⟩
      have hD6 := c6 _ _ nDp (c5 _ _ nDp hDl)
      have lns : (ns.map V.int).length = ns.length := List.length_map _
      have ix : ixN (ns.map V.int).length ((jn : Nat) : Int) = some jn := by
        unfold ixN
        rw [if_pos (by omega), if_pos (by omega), Int.toNat_natCast]
      refine ⟨D, _, _, jn, rfl, rfl, hD6, ix, ?_⟩
      rw [show (ns.map V.int).set jn (.int (1 + r)) = (ns.set jn (1 + r)).map V.int from by rw [List.map_set]]
      have hD7 : (L2.upd H6 D (.lst ((ns.set jn (1 + r)).map V.int))) D = some (.lst ((ns.set jn (1 + r)).map V.int)) := upd_same
      have p7 : PenAt (L2.upd H6 D (.lst ((ns.set jn (1 + r)).map V.int))) p := p6.upd nDp.symm
      have c7 : But p H (L2.upd H6 D (.lst ((ns.set jn (1 + r)).map V.int))) := fun b o nb e => by
        rw [upd_ne (ne_of_none e hD)]
        exact c6 _ _ nb (c5 _ _ nb (c4 _ _ nb e))
      generalize L2.upd H6 D (.lst ((ns.set jn (1 + r)).map V.int)) = H7 at hD7 p7 c7 ⊢
      have mem : ∀ x ∈ ns.set jn (1 + r), 0 ≤ x ∧ x ≤ 20 := fun x hx => by
        rcases List.mem_or_eq_of_mem_set hx with y | y
        · exact hall x y
        · omega
      refine ⟨.ref D, rfl, D, _, rfl, .inl ⟨.of hD7, fun t nt => ?_⟩⟩
      refine q _ t _ (p7.new nt) (c7.trans (.of (same_new nt))) (hp.free p7 c7 nt) (.of upd_same) ⟨by rw [List.length_set]; exact hlen, mem, ?_⟩
      refine sum_pos (fun x hx => (mem x hx).1) (y := 1 + r) ?_ (by omega)
      exact List.mem_of_getElem? (i := jn) (by rw [List.getElem?_set_self (by omega)])
end
end Sg

set_option Elab.async false
set_option linter.all false
set_option maxRecDepth 100000
set_option maxHeartbeats 4000000
namespace Sg
open PySem PySem.Spec PyProof.Rows L2 StX
section
variable {P : Program} {w : World} {K : PySem.W.Frag} {mg : Str → Option Value} {base : Heap}
theorem len_cases {ws : List (List Int)} (h : GoodL ws) : (∃ a, ws = [a]) ∨ (∃ a b, ws = [a, b]) ∨ ∃ a b c, ws = [a, b, c] := by
  have h1 := h.least
  have h2 := h.few
  match ws, h1, h2 with
  | [a], _, _ => exact .inl ⟨a, rfl⟩
  | [a, b], _, _ => exact .inr (.inl ⟨a, b, rfl⟩)
  | [a, b, c], _, _ => exact .inr (.inr ⟨a, b, c, rfl⟩)
  | _ :: _ :: _ :: _ :: _, _, z => simp at z
/-! ### _law_made -/
def spMade (K : PySem.W.Frag) (C : Addr) : Sp := fun vs H Q _ => ∃ (t : Addr) (ws : List (List Int)), vs = [.ref t] ∧ Tp K H (.ref t) (.tuple (tDs ws)) ∧ GoodL ws ∧ ∀ H' x, Same H H' → H x = none → LineAt K C H' x ws → Q (.ref x) H'
theorem ok_made {f f1 C : Addr} {fd : FuncData} {k : Nat} (F : Fun K "_law_made" "_law_made" s_l_made f fd) (T : LC K mg C) (M : Mk K C f1) (G : FnR P w K mg base CX0 k f1 (spInit K C)) (m1 : mg "len" = none) :
    FnOk P w K mg base CX0 (k + 2) f fd ["_law_works_here"] (spMade K C) := by
  refine F.ok sc_l_made (fun vs H Q E h => ?_) (fun cdv A outer s H vs Q E hr h => ?_)
  · obtain ⟨t, ws, rfl, _⟩ := h; rfl
  · obtain ⟨t, ws, rfl, hW, hg, q⟩ := h
    refine ⟨_, pss_cons (ps_if (pt_cmpR op_eq (pe_callB call_len_seq (by rfl) m1 PySem.boot_len (pa_cons (pv 0) pa_nil)) pe_int (nomark _))
        (pss_one (ps_ret (pe_makeR M G hr (by rfl) T.mgC pass0 (pa_cons (pe_ix ix_tup (pv 0) pe_int (fun _ _ => rfl)) pa_nil)))) pss_nil)
      (pss_one (ps_ret (pe_ifExp (pt_cmpR op_eq (pe_callB call_len_seq (by rfl) m1 PySem.boot_len (pa_cons (pv 0) pa_nil)) pe_int (nomark _))
        (pe_makeR M G hr (by rfl) T.mgC pass0 (pa_cons (pe_ix ix_tup (pv 0) pe_int (fun _ _ => rfl)) (pa_cons (pe_ix ix_tup (pv 0) pe_int (fun _ _ => rfl)) pa_nil)))
        (pe_makeR M G hr (by rfl) T.mgC pass0 (pa_cons (pe_ix ix_tup (pv 0) pe_int (fun _ _ => rfl)) (pa_cons (pe_ix ix_tup (pv 0) pe_int (fun _ _ => rfl)) (pa_cons (pe_ix ix_tup (pv 0) pe_int (fun _ _ => rfl)) pa_nil))))))), ?_⟩
    obtain ⟨_, xs, e, hS, hT⟩ := hW.toTup
    cases e
    have fin : ∀ z dz, H z = none → H dz = none → dz ≠ z → spInit K C (V.ref z :: xs) (upd (upd H dz (.own z)) z (.ins C dz [])) (fun v H2 => v = .non ∧ Q (.ref z) H2) E0 := make_line hT hg q
    have il : ∀ n : Nat, decide (V.int ((n : Nat) : Int) = V.int 1) = decide (n = 1) := fun n => by
      by_cases h : n = 1
      · subst h; rfl
      · rw [decide_eq_false h, decide_eq_false fun z => h (by have := V.int.inj z; omega)]
    have il2 : ∀ n : Nat, decide (V.int ((n : Nat) : Int) = V.int 2) = decide (n = 2) := fun n => by
      by_cases h : n = 2
      · subst h; rfl
      · rw [decide_eq_false h, decide_eq_false fun z => h (by have := V.int.inj z; omega)]
    refine ⟨.ref t, rfl, t, xs, rfl, .inr hS, rfl, _, rfl, ?_⟩
    rw [il]
    rcases len_cases hg with ⟨a, rfl⟩ | ⟨a, b, rfl⟩ | ⟨a, b, c, rfl⟩
    · obtain ⟨x, rfl⟩ : ∃ x, xs = [x] := by
        have := hT.len
        match xs, this with
        | [x], _ => exact ⟨x, rfl⟩
      rw [show decide ([x].length = 1) = true from rfl]
      exact iteT ⟨.ref t, rfl, t, _, 0, x, rfl, rfl, hS, atI0, fin⟩
    · obtain ⟨x, y, rfl⟩ : ∃ x y, xs = [x, y] := by
        have := hT.len
        match xs, this with
        | [x, y], _ => exact ⟨x, y, rfl⟩
      rw [show decide ([x, y].length = 1) = false from rfl]
      refine iteF ⟨.ref t, rfl, t, _, rfl, .inr hS, rfl, _, rfl, ?_⟩
      rw [il2, show decide ([x, y].length = 2) = true from rfl]
      exact iteT ⟨.ref t, rfl, t, _, 0, x, rfl, rfl, hS, atI0, .ref t, rfl, t, _, 1, y, rfl, rfl, hS, atI1, fin⟩
    · obtain ⟨x, y, z, rfl⟩ : ∃ x y z, xs = [x, y, z] := by
        have := hT.len
        match xs, this with
        | [x, y, z], _ => exact ⟨x, y, z, rfl⟩
      rw [show decide ([x, y, z].length = 1) = false from rfl]
      refine iteF ⟨.ref t, rfl, t, _, rfl, .inr hS, rfl, _, rfl, ?_⟩
      rw [il2, show decide ([x, y, z].length = 2) = false from rfl]
      exact iteF ⟨.ref t, rfl, t, _, 0, x, rfl, rfl, hS, atI0, .ref t, rfl, t, _, 1, y, rfl, rfl, hS, atI1, .ref t, rfl, t, _, 2, z, rfl, rfl, hS, atI2, fin⟩
/-! ### _law_works -/
def spWorks (K : PySem.W.Frag) : Sp := fun vs H Q _ => ∃ p : Addr, vs = [.ref p] ∧ PenAt H p ∧ ∀ H' t ws, PenAt H' p → But p H H' → H t = none → Tp K H' (.ref t) (.tuple (tDs ws)) → GoodL ws → Q (.ref t) H'
theorem ok_l_works {f f1 f2 : Addr} {fd fd1 fd2 : FuncData} {k : Nat} (F : Fun K "_law_works" "_law_works" s_l_works f fd)
    (G1 : FnOk P w K mg base CX0 k f1 fd1 ["_law_pen_here", "_law_many"] spDraw) (kp1 : PySem.W.keepIn K (.ref f1) = true) (b1 : Binds K fd1 ["_law_pen_here", "_law_many"] []) (g1 : mg "_law_draw" = some (.ref f1))
    (G2 : FnOk P w K mg base CX0 k f2 fd2 ["_law_pen_here", "_law_most", "_law_stations"] spWork) (kp2 : PySem.W.keepIn K (.ref f2) = true) (b2 : Binds K fd2 ["_law_pen_here", "_law_most", "_law_stations"] []) (g2 : mg "_law_work" = some (.ref f2))
    (m1 : mg "range" = none) (m2 : mg "tuple" = none) : FnOk P w K mg base CX0 (k + 1) f fd ["_law_pen_here"] (spWorks K) := by
  refine F.ok sc_l_works (fun vs H Q E h => ?_) (fun cdv A outer s H vs Q E hr h => ?_)
  · obtain ⟨p, rfl, _⟩ := h; rfl
  · obtain ⟨p, rfl, hp, q⟩ := h
    refine ⟨_, pss_cons (ps_set (i := 1) sc_l_works.nd rfl (Or.inr rfl) (pe_op op_add pe_int (pe_call G1 hr (by rfl) g1 kp1 b1 .nil pass0 (pa_cons (pv 0) (pa_cons pe_int pa_nil)))))
      (pss_cons (ps_set (i := 2) sc_l_works.nd rfl (Or.inr rfl) (pe_op op_add pe_int (pe_call G1 hr (by rfl) g1 kp1 b1 .nil pass0 (pa_cons (pv 0) (pa_cons pe_int pa_nil)))))
      (pss_one (ps_ret (pe_callTy call_tuple_of (by rfl) m2 (by decide +kernel) (pa_cons
        (pe_lc (own := [("_law_turn", 3)]) (g := gName 3) (tt := tYes) rfl sc_l_works.nd (pi_range1 (by rfl) m1 (pa_cons (pv 1) pa_nil))
          (blkOk_by (N := ["_law_pen_here", "_law_many", "_law_stations", "_law_turn"]) (sc := defScope s_l_works) (by decide +kernel))
          (fun _ _ _ _ _ => pg_name (i := 3) sc_l_works.nd rfl (Or.inl rfl)) (fun _ _ _ _ _ => pts_nil)
          (fun _ _ _ _ _ => pe_call G2 hr (by rfl) g2 kp2 b2 .nil pass0 (pa_cons (pv 0) (pa_cons (pe_ifExp (pt_cmpR op_eq (pv 1) pe_int (nomark _)) pe_int pe_int) (pa_cons (pv 2) pa_nil))))) pa_nil))))), ?_⟩
    refine ⟨.ref p, rfl, p, 3, rfl, hp, by decide, by decide, fun H1 r1 a1 a2 p1 e1 => ?_⟩
    refine ⟨1, r1, rfl, rfl, ?_⟩
    refine ⟨.ref p, rfl, p, 4, rfl, p1, by decide, by decide, fun H2 r2 a3 a4 p2 e2 => ?_⟩
    refine ⟨1, r2, rfl, rfl, ?_⟩
    refine ⟨.int (1 + r1), rfl, 1 + r1, rfl, by omega, by omega, fun D hD => ?_⟩
    have e12 := e1.trans e2
    have nD : p ≠ D := p2.ne hD
    refine lc_range (lo := 0) (n := (1 + r1).toNat) (fun i H' => PenAt H' p ∧ But p H2 H' ∧ ∃ acc ws, H' D = some (.lst acc) ∧ TpAll K H' acc (tDs ws) ∧ ws.length = i ∧ ∀ w ∈ ws, IsWork w)
      ⟨p2.upd nD, .of (same_new hD), [], [], upd_same, .no, rfl, fun x hx => nomatch hx⟩ (fun i H' hi h => ?_) (fun H' h => ?_)
    · obtain ⟨p4, e4, acc, ws, hDl, hT, hlen, hall⟩ := h
      refine ⟨rfl, ?_⟩
      have turn : ∀ H3 t (ns : List Int), PenAt H3 p → But p H' H3 → H' t = none → H3 t = some (.tup (ns.map V.int)) → IsWork ns →
          ∃ acc, H3 D = some (.lst acc) ∧ acc.length < sizeLine ∧ (PenAt (upd H3 D (.lst (acc ++ [V.ref t]))) p ∧ But p H2 (upd H3 D (.lst (acc ++ [V.ref t]))) ∧
            ∃ acc' ws, (upd H3 D (.lst (acc ++ [V.ref t]))) D = some (.lst acc') ∧ TpAll K (upd H3 D (.lst (acc ++ [V.ref t]))) acc' (tDs ws) ∧ ws.length = i + 1 ∧ ∀ w ∈ ws, IsWork w) := by
        intro H3 t ns b1 b2 b3 b4 b5
        have hD3 := b2 _ _ (Ne.symm nD) hDl
        have st1 : St K H' H3 := .pen b2 p4
        have st2 : St K H3 (upd H3 D (.lst (acc ++ [V.ref t]))) := .but .upd hD3
        refine ⟨acc, hD3, ?_, b1.upd nD, fun b o n e => ?_, _, ws ++ [ns], upd_same, ?_, by rw [List.length_append, hlen]; rfl, fun w hw => ?_⟩
        · have z := hT.len
          rw [List.length_map, hlen] at z
          exact small1000 (by omega)
        · rw [upd_ne (ne_of_none e hD)]
          exact b2 _ _ n (e4 _ _ n e)
        · show TpAll K _ _ ((ws ++ [ns]).map tD)
          rw [List.map_append]
          exact ((hT.stay st1).stay st2).add (.on ((Tp.ofInts (.of b4)).stay st2) .no)
        · rcases List.mem_append.mp hw with z | z
          · exact hall w z
          · rw [List.mem_singleton.mp z]; exact b5
      refine ⟨.ref p, rfl, .int (1 + r1), rfl, rfl, _, rfl, ite2 (fun _ => ?_) (fun _ => ?_)⟩
      · exact ⟨.int (1 + r2), rfl, p, 8, 1 + r2, rfl, p4, by decide, by decide, by omega, by omega, fun H3 t ns b1 b2 b3 b4 b5 _ _ => turn H3 t ns b1 b2 b3 b4 b5⟩
      · exact ⟨.int (1 + r2), rfl, p, 5, 1 + r2, rfl, p4, by decide, by decide, by omega, by omega, fun H3 t ns b1 b2 b3 b4 b5 _ _ => turn H3 t ns b1 b2 b3 b4 b5⟩
    · obtain ⟨p4, e4, acc, ws, hDl, hT, hlen, hall⟩ := h
      refine ⟨D, acc, rfl, .inl ⟨.of hDl, fun l nl => ?_⟩⟩
      have bb : But p H (upd H' l (.tup acc)) := e12.trans (e4.trans (.of (same_new nl)))
      refine q _ l ws (p4.upd (p4.ne nl)) bb ?_ (.new nl hT) ⟨by omega, by omega, hall⟩
      exact hp.free p4 (e12.trans e4) nl
end
end Sg

set_option Elab.async false
set_option linter.all false
set_option maxRecDepth 100000
set_option maxHeartbeats 4000000
namespace Sg
open PySem PySem.Spec PyProof.Rows L2 StX
theorem Small.bool {b : Bool} {n c : Nat} : Small (.bool b) n c := by
  refine ⟨by simp only [PyData.showable], by simp only [PyData.hasDict], by simp only [PyData.depth]; exact Nat.zero_le _, ?_, by simp only [PyData.bulk]; exact Nat.zero_le _, by simp only [PyData.canLay0]⟩
  cases b <;> decide +kernel
/-- what is told of a lap -/
abbrev tellD (r : Bool) (f : List Int) : PyData := .list [.bool r, .tuple (iD f)]
theorem frac_small {a b : Int} (ha : 0 ≤ a) (ha2 : a ≤ 1000000) (hb : 0 < b) (hb2 : b ≤ 900) {n : Nat} : SmallAll (iD (fracL a b)) n 2 := by
  refine SmallAll.ints _ fun x hx => ?_
  unfold fracL at hx
  have g0 : 0 < Nat.gcd a.natAbs b.natAbs := Nat.gcd_pos_of_pos_right _ (by omega)
  generalize Nat.gcd a.natAbs b.natAbs = g at g0 hx
  have e1 : 0 ≤ a / (g : Nat) := Int.ediv_nonneg ha (by omega)
  have e2 : a / (g : Nat) ≤ a := Int.ediv_le_self _ ha
  have e3 : 0 ≤ b / (g : Nat) := Int.ediv_nonneg (by omega) (by omega)
  have e4 : b / (g : Nat) ≤ b := Int.ediv_le_self _ (by omega)
  rcases List.mem_cons.mp hx with rfl | hx
  · omega
  · rw [List.mem_singleton.mp hx]
    omega
theorem gain_most {n : Nat} {wt : List Int} (hw : GoodWt n wt) : ∀ lp : List Int, gainN wt lp ≤ 20 * lp.length
  | [] => Int.le_refl _
  | x :: r => by
    have h1 := gain_most hw r
    have h2 : worthN wt x ≤ 20 := by
      unfold worthN
      split
      · decide
      · rw [List.getD_eq_getElem?_getD]
        cases e : wt[x.toNat]? with
        | none => decide
        | some y => exact (hw.items y (List.mem_of_getElem? e)).2
    show (worthN wt x :: r.map (worthN wt)).sum ≤ _
    rw [List.sum_cons, List.length_cons]
    unfold gainN at h1
    omega
theorem tell_small {n m : Nat} {wt lp : List Int} (hw : GoodWt m wt) (hg : GoodLap m lp) {r : Bool} : Small (tellD r (fracL (gainN wt lp) lp.length)) (n + 2) 5 := by
  have h1 := gain_pos hw lp
  have h2 := gain_most hw lp
  have h3 := hg.pos
  have h4 := hg.most
  have f : SmallAll (iD (fracL (gainN wt lp) lp.length)) n 2 := frac_small h1 (by omega) (by omega) (by omega)
  exact (Small.list (SmallAll.cons (Small.bool (c := 0)) (SmallAll.cons (Small.tuple f) (SmallAll.nil (b := 0))))).mono (Nat.le_refl _) (by omega)
section
variable {P : Program} {w : World} {K : PySem.W.Frag} {mg : Str → Option Value} {base : Heap}
def spRight (K : PySem.W.Frag) (C : Addr) : Sp := fun vs H Q _ => ∃ (a b c : Addr) (ws : List (List Int)) (lp wt : List Int), vs = [.ref a, .ref b, .ref c] ∧ Tp K H (.ref a) (.tuple (tDs ws)) ∧ GoodL ws ∧ SqT K H b (lp.map V.int) ∧ GoodLap ws.length lp ∧ lp.length ≤ 100 ∧ SqT K H c (wt.map V.int) ∧ GoodWt ws.length wt ∧ ∀ H', Same H H' → Q (.bl true) H'
abbrev rightN : List Str := ["_law_works_here", "_law_lap_here", "_law_worths_here", "_law_made_here", "_law_kept", "_law_due", "_law_told", "_law_turn"]
theorem ok_right {f f1 f2 f3 f4 f5 fs C : Addr} {fd fd1 fd2 fd3 fd4 fd5 fds : FuncData} {k : Nat} (F : Fun K "_law_is_right" "_law_is_right" s_l_is_right f fd)
    (G1 : FnOk P w K mg base CX0 k f1 fd1 ["_law_works_here"] (spMade K C)) (kp1 : PySem.W.keepIn K (.ref f1) = true) (b1 : Binds K fd1 ["_law_works_here"] []) (g1 : mg "_law_made" = some (.ref f1))
    (G2 : FnOk P w K mg base CX0 k f2 fd2 ["_law_works_here", "_law_lap_here"] (spLFits K)) (kp2 : PySem.W.keepIn K (.ref f2) = true) (b2 : Binds K fd2 ["_law_works_here", "_law_lap_here"] []) (g2 : mg "_law_fits" = some (.ref f2))
    (G3 : FnOk P w K mg base CX0 k f3 fd3 ["_law_lap_here", "_law_worths_here"] (spLMean K)) (kp3 : PySem.W.keepIn K (.ref f3) = true) (b3 : Binds K fd3 ["_law_lap_here", "_law_worths_here"] []) (g3 : mg "_law_mean" = some (.ref f3))
    (G4 : FnOk P w K mg base CX0 k f4 fd4 ["line", "lap"] (spFits K C)) (kp4 : PySem.W.keepIn K (.ref f4) = true) (b4 : Binds K fd4 ["line", "lap"] []) (g4 : mg "fits" = some (.ref f4))
    (G5 : FnOk P w K mg base CX0 k f5 fd5 ["line", "lap", "worths"] (spMean K C)) (kp5 : PySem.W.keepIn K (.ref f5) = true) (b5 : Binds K fd5 ["line", "lap", "worths"] []) (g5 : mg "mean" = some (.ref f5))
    (Gs : FnG P w K mg base k fs fds ["_law_found", "_law_due"] (spSame3 K)) (kps : PySem.W.keepIn K (.ref fs) = true) (bs : Binds K fds ["_law_found", "_law_due"] []) (gs : mg "_law_same" = some (.ref fs))
    (m1 : mg "repr" = none) : FnG P w K mg base (k + 1) f fd ["_law_works_here", "_law_lap_here", "_law_worths_here"] (spRight K C) := by
  refine fnG_mk F sc_l_is_right (fun vs H Q h => ?_) (fun cdv A outer s H vs Q hgd hr h => ?_)
  · obtain ⟨a, b, c, ws, lp, wt, rfl, _⟩ := h; rfl
  · obtain ⟨a, b, c, ws, lp, wt, rfl, hW, gw, hS, hg, hl100, hT, hw, q⟩ := h
    refine ⟨_, pss_cons (ps_asg (pe_tup (pa_cons (pe_call G1 hr (by rfl) g1 kp1 b1 .nil pass0 (pa_cons (pv 0) pa_nil)) (pa_cons (pe_callB (call_reprD hgd hr) (by rfl) m1 (by decide +kernel) (pa_cons (pe_tup (pa_cons (pv 1) (pa_cons (pv 2) pa_nil))) pa_nil)) pa_nil)))
        (pg_tup rfl (pgs_cons (pg_name (i := 3) sc_l_is_right.nd rfl (.inr rfl)) (pgs_cons (pg_name (i := 4) sc_l_is_right.nd rfl (.inl rfl)) pgs_nil))))
      (pss_cons (ps_set (i := 5) sc_l_is_right.nd rfl (.inl rfl) (pe_lst (pa_cons (pe_call G2 hr (by rfl) g2 kp2 b2 .nil pass0 (pa_cons (pv 0) (pa_cons (pv 1) pa_nil))) (pa_cons (pe_call G3 hr (by rfl) g3 kp3 b3 .nil pass0 (pa_cons (pv 1) (pa_cons (pv 2) pa_nil))) pa_nil))))
      (pss_cons (ps_setLc (i := 6) (own := [("_law_turn", 7)]) (g := gName 7) (tt := tYes) rfl sc_l_is_right.nd rfl rfl (sw_true rfl rfl rfl (by decide +kernel)) (pi_tup (pe_tup (pa_cons pe_int (pa_cons pe_int pa_nil))))
          (blkOk_by (N := rightN) (sc := defScope s_l_is_right) (by decide +kernel)) (fun _ _ _ _ _ => pg_name (i := 7) sc_l_is_right.nd rfl (Or.inl rfl)) (fun _ _ _ _ _ => pts_nil)
          (fun _ _ _ _ _ => pe_lst (pa_cons (pe_call G4 hr (by rfl) g4 kp4 b4 .nil pass0 (pa_cons (pv 3) (pa_cons (pv 1) pa_nil))) (pa_cons (pe_call G5 hr (by rfl) g5 kp5 b5 .nil pass0 (pa_cons (pv 3) (pa_cons (pv 1) (pa_cons (pv 2) pa_nil)))) pa_nil))))
      (pss_one (ps_ret (pe_and (pe_callG Gs hgd hr (by rfl) gs kps bs (pa_cons (pv 6) (pa_cons (pe_lst (pa_cons (pv 5) (pa_cons (pv 5) pa_nil))) pa_nil)))
        (pe_one (pe_cmpR op_eq (pe_callB (call_reprD hgd hr) (by rfl) m1 (by decide +kernel) (pa_cons (pe_tup (pa_cons (pv 1) (pa_cons (pv 2) pa_nil))) pa_nil)) (pv 4) (nomark _)))))))), ?_⟩
    have l2 := hg.most
    have l3 := hw.len
    have few := gw.few
    have shP : Shows (.tuple [.tuple (iD lp), .tuple (iD wt)]) := by
      have h1 : SmallAll (iD lp) 0 100 := (SmallAll.ints lp fun x hx => by
        have := hg.items x hx
        omega).mono (Nat.le_refl _) hl100
      have h2 : SmallAll (iD wt) 0 100 := (SmallAll.ints wt fun x hx => by
        have := hw.items x hx
        omega).mono (Nat.le_refl _) (by omega)
      exact (Small.tuple (SmallAll.cons (Small.tuple h1) (SmallAll.cons (Small.tuple h2) (SmallAll.nil (b := 0))))).shows (by decide) (by decide)
    refine ⟨.ref a, rfl, a, ws, rfl, hW, gw, fun H1 m e1 nm hm => ?_⟩
    refine ⟨.ref b, rfl, .ref c, rfl, by show 2 ≤ sizeLine; decide, fun X1 nX => ?_⟩
    have e2 : Same H1 (L2.upd H1 X1 (.tup [V.ref b, .ref c])) := same_new nX
    have hX : (L2.upd H1 X1 (.tup [V.ref b, .ref c])) X1 = some (.tup [V.ref b, .ref c]) := upd_same
    generalize L2.upd H1 X1 (.tup [V.ref b, .ref c]) = H2 at e2 hX ⊢
    have e12 := e1.trans e2
    refine ⟨X1, _, rfl, .tup (.of hX) (.cons (Tp.ofInts (Same.tup e12 hS)).dp (.cons (Tp.ofInts (Same.tup e12 hT)).dp .nil)), shP, by show 2 ≤ sizeLine; decide, fun Y1 nY => ?_⟩
    have e3 : Same H2 (L2.upd H2 Y1 (.tup [V.ref m, .str (PyData.shown (.tuple [.tuple (iD lp), .tuple (iD wt)]))])) := same_new nY
    refine ⟨Y1, _, rfl, .of upd_same, rfl, _, _, rfl, _, _, rfl, rfl, ?_⟩
    have e13 := e12.trans e3
    have hm3 := hm.stay (.of (e2.trans e3))
    generalize L2.upd H2 Y1 (.tup [V.ref m, .str (PyData.shown (.tuple [.tuple (iD lp), .tuple (iD wt)]))]) = H3 at e13 hm3 ⊢
    refine ⟨.ref a, rfl, .ref b, rfl, a, b, ws, lp, rfl, hW.stay (.of e13), gw, Same.tup e13 hS, hg, fun H4 r e4 hr4 => ?_⟩
    have e14 := e13.trans e4
    refine ⟨.ref b, rfl, .ref c, rfl, b, c, ws.length, lp, wt, rfl, Same.tup e14 hS, hg, Same.tup e14 hT, hw, fun H5 p e5 hp => ⟨by show 2 ≤ sizeLine; decide, fun D nD => ?_⟩⟩
    have e6 : Same H5 (L2.upd H5 D (.lst [V.bl r, .ref p])) := same_new nD
    have hD : (L2.upd H5 D (.lst [V.bl r, .ref p])) D = some (.lst [V.bl r, .ref p]) := upd_same
    have hp6 := Same.tup e6 hp
    generalize L2.upd H5 D (.lst [V.bl r, .ref p]) = H6 at e6 hD hp6 ⊢
    have e16 := e14.trans (e5.trans e6)
    have hm6 := hm3.stay (.of (e4.trans (e5.trans e6)))
    generalize hfr : fracL (gainN wt lp) lp.length = fr at hp6 hp
    refine ⟨by show 2 ≤ sizeLine; decide, fun U nU => ?_⟩
    have e7 : Same H6 (L2.upd H6 U (.tup [V.int 0, .int 1])) := same_new nU
    have hU : (L2.upd H6 U (.tup [V.int 0, .int 1])) U = some (.tup [V.int 0, .int 1]) := upd_same
    generalize L2.upd H6 U (.tup [V.int 0, .int 1]) = H7 at e7 hU ⊢
    have e17 := e16.trans e7
    have hm7 := hm6.stay (.of e7)
    have hD7 := e7 _ _ hD
    have hp7 := Same.tup e7 hp6
    refine ⟨U, rfl, ⟨_, .of hU⟩, fun T nT => ?_⟩
    have nTH : H T = none := e17.free nT
    refine lc_tup (xs := [V.int 0, .int 1]) (fun i H' => Same H7 H' ∧ ∃ ls : List (Addr × Addr), H' T = some (.lst (ls.map fun z => V.ref z.1)) ∧ ls.length = i ∧ ∀ z ∈ ls, z.1 ≠ T ∧ H' z.1 = some (.lst [V.bl r, .ref z.2]) ∧ SqT K H' z.2 (fr.map V.int))
      ⟨same_new nT, [], upd_same, rfl, fun z h => (nomatch h)⟩ (fun i H' _ h => .of (h.1 _ _ hU)) (fun i x H' hx h => ?_) (fun H8 h => ?_)
    · obtain ⟨eh, ls, hT8, ln, hls⟩ := h
      have eA := e17.trans eh
      have hi : i < 2 := (List.getElem?_eq_some_iff.mp hx).1
      refine ⟨rfl, .ref m, rfl, .ref b, rfl, m, b, ws, lp, rfl, hm7.stay (.of eh), Same.tup eA hS, hg, fun H9 r9 e9 hr9 => ?_⟩
      obtain rfl : r9 = r := Bool.eq_iff_iff.mpr (hr9.trans hr4.symm)
      have eB := eA.trans e9
      refine ⟨.ref m, rfl, .ref b, rfl, .ref c, rfl, m, b, c, ws, lp, wt, rfl, hm7.stay (.of (eh.trans e9)), Same.tup eB hS, hg, Same.tup eB hT, hw, fun H10 p10 e10 hp10 => ⟨by show 2 ≤ sizeLine; decide, fun l nl => ?_⟩⟩
      rw [hfr] at hp10
      have el : Same H10 (L2.upd H10 l (.lst [V.bl r9, .ref p10])) := same_new nl
      have hl : (L2.upd H10 l (.lst [V.bl r9, .ref p10])) l = some (.lst [V.bl r9, .ref p10]) := upd_same
      have hT10 := e10 _ _ (e9 _ _ hT8)
      have nlT : l ≠ T := (ne_of_none hT10 nl).symm
      have hp11 := Same.tup el hp10
      have eC := e9.trans (e10.trans el)
      generalize L2.upd H10 l (.lst [V.bl r9, .ref p10]) = H11 at el hl hp11 eC ⊢
      have hT11 := el _ _ hT10
      refine ⟨_, hT11, by rw [List.length_map]; exact small1000 (by omega), fun y o g => ?_, ls ++ [(l, p10)], ?_, ?_, fun z hz => ?_⟩
      · rw [upd_ne (ne_of_none g nT)]
        exact eC _ _ (eh _ _ g)
      · rw [upd_same, List.map_append]
        rfl
      · rw [List.length_append, ln]
        rfl
      · rcases List.mem_append.mp hz with y | y
        · obtain ⟨z1, z2, z3⟩ := hls z y
          exact ⟨z1, by rw [upd_ne z1]; exact eC _ _ z2, tup_upd hT11 (fun _ z => nomatch z) (fun _ _ z => nomatch z) (Same.tup eC z3)⟩
        · rw [List.mem_singleton.mp y]
          exact ⟨nlT, by rw [upd_ne nlT]; exact hl, tup_upd hT11 (fun _ z => nomatch z) (fun _ _ z => nomatch z) hp11⟩
    · obtain ⟨eh, ls, hT8, ln, hls⟩ := h
      have ln2 : ls.length = 2 := ln
      obtain ⟨z1, z2, rfl⟩ : ∃ z1 z2, ls = [z1, z2] := by
        match ls, ln2 with
        | [z1, z2], _ => exact ⟨z1, z2, rfl⟩
      obtain ⟨_, a1, a2⟩ := hls z1 List.mem_cons_self
      obtain ⟨_, c1, c2⟩ := hls z2 (List.mem_cons_of_mem _ List.mem_cons_self)
      have eA := e17.trans eh
      have hD8 := eh _ _ hD7
      have hp8 := Same.tup eh hp7
      refine ⟨.ref T, rfl, .ref D, rfl, .ref D, rfl, by show 2 ≤ sizeLine; decide, fun Z nZ => ?_⟩
      have eZ : Same H8 (L2.upd H8 Z (.lst [V.ref D, .ref D])) := same_new nZ
      have hZ : (L2.upd H8 Z (.lst [V.ref D, .ref D])) Z = some (.lst [V.ref D, .ref D]) := upd_same
      generalize L2.upd H8 Z (.lst [V.ref D, .ref D]) = H9 at eZ hZ ⊢
      have eB := eA.trans eZ
      have one : ∀ {l q : Addr}, H8 l = some (.lst [V.bl r, .ref q]) → SqT K H8 q (fr.map V.int) → Dp K H9 (.ref l) (tellD r fr) := fun h1 h2 => .lst (.of (eZ _ _ h1)) (.cons (.bl r) (.cons (Tp.ofInts (Same.tup eZ h2)).dp .nil))
      have sh : Shows (.list [tellD r fr, tellD r fr]) := by
        have st : Small (tellD r fr) 2 5 := by rw [← hfr]; exact tell_small hw hg
        exact (Small.list (SmallAll.cons st (SmallAll.cons st (SmallAll.nil (b := 0))))).shows (by decide) (by decide)
      refine ⟨.inl ⟨T, Z, _, rfl, .lst (.of (eZ _ _ hT8)) (.cons (one a1 a2) (.cons (one c1 c2) .nil)), .lst (.of hZ) (.cons (one hD8 hp8) (.cons (one hD8 hp8) .nil)), sh⟩, true, rfl, iteT ?_⟩
      refine ⟨.ref b, rfl, .ref c, rfl, by show 2 ≤ sizeLine; decide, fun X2 nX2 => ?_⟩
      have e10 : Same H9 (L2.upd H9 X2 (.tup [V.ref b, .ref c])) := same_new nX2
      have hX2 : (L2.upd H9 X2 (.tup [V.ref b, .ref c])) X2 = some (.tup [V.ref b, .ref c]) := upd_same
      generalize L2.upd H9 X2 (.tup [V.ref b, .ref c]) = H10 at e10 hX2 ⊢
      have eC := eB.trans e10
      refine ⟨X2, _, rfl, .tup (.of hX2) (.cons (Tp.ofInts (Same.tup eC hS)).dp (.cons (Tp.ofInts (Same.tup eC hT)).dp .nil)), shP, _, rfl, rfl, ?_⟩
      rw [decide_eq_true rfl]
      exact q H10 eC
end
end Sg

set_option Elab.async false
set_option linter.all false
set_option maxRecDepth 100000
set_option maxHeartbeats 4000000
namespace Sg
open PySem PySem.Spec PyProof.Rows L2 StX
def rot (lp : List Int) (m : Nat) : List Int := lp.drop m ++ lp.take m
theorem rot_at {lp : List Int} {t d : Nat} (ht : t < lp.length) : (rot lp (d % lp.length))[t]? = lp[(t + d) % lp.length]? := by
  have hm : d % lp.length < lp.length := Nat.mod_lt _ (by omega)
  have e : (t + d) % lp.length = (t + d % lp.length) % lp.length := by rw [Nat.add_mod_mod]
  rw [e]
  generalize d % lp.length = m at hm ⊢
  unfold rot
  have ld : (lp.drop m).length = lp.length - m := List.length_drop
  by_cases h : t < lp.length - m
  · rw [List.getElem?_append_left (by rw [ld]; exact h), List.getElem?_drop, Nat.mod_eq_of_lt (by omega), Nat.add_comm]
  · rw [List.getElem?_append_right (by rw [ld]; omega), ld, List.getElem?_take_of_lt (by omega)]
    have e2 : (t + m) % lp.length = t - (lp.length - m) := by
      rw [show t + m = (t - (lp.length - m)) + lp.length by omega, Nat.add_mod_right, Nat.mod_eq_of_lt (by omega)]
    rw [e2]
def noClashB (ws : List (List Int)) (lp : List Int) : Bool := (List.range ws.length).all fun k => (List.range ws.length).all fun o => (barsN (wk ws k) (wk ws o)).all fun d => (lp.zip (rot lp (d % lp.length))).all fun p => !(p.1 == ((k : Nat) : Int) && p.2 == ((o : Nat) : Int))
theorem noClashB_iff {ws : List (List Int)} {lp : List Int} (hg : GoodLap ws.length lp) : noClashB ws lp = true ↔ noClash ws lp := by
  unfold noClashB noClash
  constructor
  · rintro h ⟨t, ht, kd, h1, o, d, ho, hd, h2⟩
    have hk : kd < ws.length := by
      have := (hg.items _ (List.mem_of_getElem? h1)).2
      omega
    have := List.all_eq_true.mp h kd (List.mem_range.mpr hk)
    have := List.all_eq_true.mp this o (List.mem_range.mpr ho)
    have := List.all_eq_true.mp this d hd
    have := List.all_eq_true.mp this (((kd : Nat) : Int), ((o : Nat) : Int)) (List.mem_of_getElem? (i := t) (List.getElem?_zip_eq_some.mpr ⟨h1, by rw [rot_at ht]; exact h2⟩))
    simp at this
  · intro h
    refine List.all_eq_true.mpr fun k hk => List.all_eq_true.mpr fun o ho => List.all_eq_true.mpr fun d hd => List.all_eq_true.mpr fun p hp => ?_
    obtain ⟨t, htt⟩ := List.mem_iff_getElem?.mp hp
    obtain ⟨g1, g2⟩ := List.getElem?_zip_eq_some.mp htt
    have ht := (List.getElem?_eq_some_iff.mp g1).1
    rw [rot_at ht] at g2
    cases hb : (p.1 == ((k : Nat) : Int) && p.2 == ((o : Nat) : Int)) with
    | false => rfl
    | true =>
      rw [Bool.and_eq_true, beq_iff_eq, beq_iff_eq] at hb
      exact absurd ⟨t, ht, k, by rw [g1, hb.1], o, d, List.mem_range.mp ho, hd, by rw [g2, hb.2]⟩ h
def goodLapB (n : Nat) (lp : List Int) : Bool := decide (1 ≤ lp.length) && decide (lp.length ≤ 900) && lp.all fun x => decide (-1 ≤ x) && decide (x < n)
theorem goodLap_of {n : Nat} {lp : List Int} (h : goodLapB n lp = true) : GoodLap n lp := by
  unfold goodLapB at h
  rw [Bool.and_eq_true, Bool.and_eq_true, decide_eq_true_eq, decide_eq_true_eq] at h
  refine ⟨h.1.1, h.1.2, fun x hx => ?_⟩
  have := List.all_eq_true.mp h.2 x hx
  rw [Bool.and_eq_true, decide_eq_true_eq, decide_eq_true_eq] at this
  exact this
abbrev w7 : List Int := [0, 0, -1, -1, -1, -1, 0]
abbrev wa : List Int := [0, -1, 0]
def laps1 : List (List Int) := [[0, -1, -1], [0, -1, -1, -1], [-1, -1, -1, 0, -1, -1, 0], [-1], [0], [0, -1, 0, -1, 0] ++ (List.replicate 6 [-1]).flatten]
def longL : List Int := (List.replicate 150 [0, 0, -1, -1]).flatten
def laps2 : List (List Int) := [longL, [-1] ++ longL.drop 1, ([0] ++ (List.replicate 597 [-1]).flatten) ++ [0, -1], ([0] ++ (List.replicate 598 [-1]).flatten) ++ [0]]
theorem laps1_ok : laps1.all (goodLapB 1) = true := by decide +kernel
theorem laps1_told : laps1.map (noClashB [w7]) = [false, true, true, true, false, true] := by decide +kernel
theorem laps2_ok : laps2.all (goodLapB 1) = true := by decide +kernel
theorem laps2_told : laps2.map (noClashB [wa]) = [true, true, false, true] := by decide +kernel
theorem gains2 : (laps2.take 2).map (fun lp => fracL (gainN [2] lp) lp.length) = [[1, 1], [299, 300]] := by decide +kernel
theorem wt2 : GoodWt 1 [2] := ⟨rfl, by decide, by decide⟩
theorem wt8 : GoodWt 1 [8] := ⟨rfl, by decide, by decide⟩
theorem one7 : GoodL [w7] := ⟨by decide, by decide, fun w hw => by rw [List.mem_singleton.mp hw]; exact ⟨by decide, by decide, by decide, by decide, by decide⟩⟩
theorem onea : GoodL [wa] := ⟨by decide, by decide, fun w hw => by rw [List.mem_singleton.mp hw]; exact ⟨by decide, by decide, by decide, by decide, by decide⟩⟩
theorem one2 : GoodL [[2]] := ⟨by decide, by decide, fun w hw => by rw [List.mem_singleton.mp hw]; exact ⟨by decide, by decide, by decide, by decide, by decide⟩⟩
theorem fits2 : noClashB [[2]] [0] = true := by decide +kernel
theorem mean2 : fracL (gainN [8] [0, -1, 0, 0]) ([0, -1, 0, 0] : List Int).length = [6, 1] := by decide +kernel
end Sg

set_option Elab.async false
set_option linter.all false
set_option maxRecDepth 100000
set_option maxHeartbeats 4000000
namespace Sg
open PySem PySem.Spec PyProof.Rows L2 StX
theorem ite_Q {b : Bool} {X Y : VK → Prop} {Q : VK} (R : V → Hp → Prop) (hx : ∀ Q' : VK, (∀ v H, R v H → Q' v H) → X Q') (hy : ∀ Q' : VK, (∀ v H, R v H → Q' v H) → Y Q') (q : ∀ v H, R v H → Q v H) : if b = true then X Q else Y Q := by
  cases b with
  | true => exact hx Q q
  | false => exact hy Q q
theorem cut_map (xs : List Int) (lo hi : Option Int) : ∃ ys : List Int, cutV (xs.map V.int) lo hi = ys.map V.int ∧ ys.length ≤ xs.length := by
  unfold cutV
  refine ⟨(xs.drop (HT.sIx (xs.map V.int).length 0 lo)).take (HT.sIx (xs.map V.int).length (xs.map V.int).length hi - HT.sIx (xs.map V.int).length 0 lo), ?_, ?_⟩
  · rw [List.map_take, List.map_drop]
  · rw [List.length_take, List.length_drop]
    exact Nat.le_trans (Nat.min_le_right _ _) (Nat.sub_le _ _)
abbrev lawN : List Str := ["_law_script", "_law_work_here", "_law_some", "_law_lap_here", "_law_long", "_law_line", "_law_cell_here", "_law_pen_here", "_law_turn", "_law_works_here"]
section
variable {P : Program} {w : World} {K : PySem.W.Frag} {mg : Str → Option Value} {base : Heap}
def spLaw (K : PySem.W.Frag) : Sp := fun vs H Q _ => ∃ (a : Addr) (ns : List Int), vs = [.ref a] ∧ SqL K H a (ns.map V.int) ∧ ns.length ≤ 63 ∧ ∀ H', Q (.bl true) H'
theorem ok_law {f f1 f2 f3 f4 f5 f6 f7 f8 fs fr C : Addr} {fd fd1 fd2 fd3 fd4 fd5 fd6 fd7 fd8 fds fdr : FuncData} {k : Nat} (F : Fun K "law" "law" s_law f fd) (M : Meths2 P w K mg base k C)
    (G1 : FnOk P w K mg base CX0 (k + 4) f1 fd1 ["_law_script", "_law_k"] (spCell K)) (kp1 : PySem.W.keepIn K (.ref f1) = true) (b1 : Binds K fd1 ["_law_script", "_law_k"] []) (g1 : mg "_law_cell" = some (.ref f1))
    (G2 : FnOk P w K mg base CX0 (k + 4) f2 fd2 ["_law_cell_here"] spPen) (kp2 : PySem.W.keepIn K (.ref f2) = true) (b2 : Binds K fd2 ["_law_cell_here"] []) (g2 : mg "_law_pen" = some (.ref f2))
    (G3 : FnOk P w K mg base CX0 (k + 4) f3 fd3 ["_law_pen_here", "_law_most", "_law_stations"] spWork) (kp3 : PySem.W.keepIn K (.ref f3) = true) (b3 : Binds K fd3 ["_law_pen_here", "_law_most", "_law_stations"] []) (g3 : mg "_law_work" = some (.ref f3))
    (G4 : FnOk P w K mg base CX0 (k + 4) f4 fd4 ["_law_pen_here"] (spWorks K)) (kp4 : PySem.W.keepIn K (.ref f4) = true) (b4 : Binds K fd4 ["_law_pen_here"] []) (g4 : mg "_law_works" = some (.ref f4))
    (G5 : FnOk P w K mg base CX0 (k + 4) f5 fd5 ["_law_pen_here", "_law_many", "_law_most"] (spLLap K)) (kp5 : PySem.W.keepIn K (.ref f5) = true) (b5 : Binds K fd5 ["_law_pen_here", "_law_many", "_law_most"] []) (g5 : mg "_law_lap" = some (.ref f5))
    (G6 : FnOk P w K mg base CX0 (k + 4) f6 fd6 ["_law_pen_here", "_law_many"] (spLWt K)) (kp6 : PySem.W.keepIn K (.ref f6) = true) (b6 : Binds K fd6 ["_law_pen_here", "_law_many"] []) (g6 : mg "_law_worths" = some (.ref f6))
    (G7 : FnOk P w K mg base CX0 (k + 4) f7 fd7 ["line", "lap"] (spFits K C)) (kp7 : PySem.W.keepIn K (.ref f7) = true) (b7 : Binds K fd7 ["line", "lap"] []) (g7 : mg "fits" = some (.ref f7))
    (G8 : FnOk P w K mg base CX0 (k + 4) f8 fd8 ["line", "lap", "worths"] (spMean K C)) (kp8 : PySem.W.keepIn K (.ref f8) = true) (b8 : Binds K fd8 ["line", "lap", "worths"] []) (g8 : mg "mean" = some (.ref f8))
    (Gs : FnG P w K mg base (k + 4) fs fds ["_law_found", "_law_due"] (spSame3 K)) (kps : PySem.W.keepIn K (.ref fs) = true) (bs : Binds K fds ["_law_found", "_law_due"] []) (gs : mg "_law_same" = some (.ref fs))
    (Gr : FnG P w K mg base (k + 4) fr fdr ["_law_works_here", "_law_lap_here", "_law_worths_here"] (spRight K C)) (kpr : PySem.W.keepIn K (.ref fr) = true) (br : Binds K fdr ["_law_works_here", "_law_lap_here", "_law_worths_here"] []) (gr : mg "_law_is_right" = some (.ref fr))
    (m1 : mg "len" = none) (m2 : mg "range" = none) : FnG P w K mg base (k + 5) f fd ["_law_script"] (spLaw K) := by
  refine fnG_mk F sc_law (fun vs H Q h => ?_) (fun cdv A outer s H vs Q hgd hr h => ?_)
  · obtain ⟨a, ns, rfl, _⟩ := h; rfl
  · obtain ⟨a, ns, rfl, hS, hlen, q⟩ := h
    have hu := hr.units
    have hr2 := hr.mono (show k + 2 ≤ k + 4 by omega)
    refine ⟨_, (pss_cons (ps_set (i := 1) sc_law.nd rfl (.inr rfl) (pe_tup (pa_cons pe_int (pa_cons pe_int (pa_cons (pe_un un_neg pe_int) (pa_cons (pe_un un_neg pe_int) (pa_cons (pe_un un_neg pe_int) (pa_cons (pe_un un_neg pe_int) (pa_cons pe_int pa_nil)))))))))
          (pss_cons (ps_set (i := 2) sc_law.nd rfl (.inl rfl) (pe_lst (pa_cons (pe_tup (pa_cons pe_int (pa_cons (pe_un un_neg pe_int) (pa_cons (pe_un un_neg pe_int) pa_nil)))) (pa_cons (pe_tup (pa_cons pe_int (pa_cons (pe_un un_neg pe_int) (pa_cons (pe_un un_neg pe_int) (pa_cons (pe_un un_neg pe_int) pa_nil))))) (pa_cons (pe_tup (pa_cons (pe_un un_neg pe_int) (pa_cons (pe_un un_neg pe_int) (pa_cons (pe_un un_neg pe_int) (pa_cons pe_int (pa_cons (pe_un un_neg pe_int) (pa_cons (pe_un un_neg pe_int) (pa_cons pe_int pa_nil)))))))) (pa_cons (pe_tup (pa_cons (pe_un un_neg pe_int) pa_nil)) (pa_cons (pe_tup (pa_cons pe_int pa_nil)) (pa_cons (pe_op op_catT (pe_tup (pa_cons pe_int (pa_cons (pe_un un_neg pe_int) (pa_cons pe_int (pa_cons (pe_un un_neg pe_int) (pa_cons pe_int pa_nil)))))) (pe_op op_repT (pe_tup (pa_cons (pe_un un_neg pe_int) pa_nil)) pe_int)) pa_nil))))))))
          (pss_cons (ps_if (pt_not (pt_val (pe_callG Gs hgd hr (by rfl) gs kps bs (pa_cons (pe_lc (own := [("_law_lap_here", 3)]) (g := gName 3) (tt := tYes) rfl sc_law.nd (pi_list (pv 2)) (blkOk_by (N := lawN) (sc := defScope s_law) (by decide +kernel)) (fun _ _ _ _ _ => pg_name (i := 3) sc_law.nd rfl (Or.inl rfl)) (fun _ _ _ _ _ => pts_nil) (fun _ _ _ _ _ => pe_call G7 hr (by rfl) g7 kp7 b7 .nil pass0 (pa_cons (M.m.pNew (K := K) rfl hr2 (by rfl) (pa_cons (pv 1) pa_nil)) (pa_cons (pv 3) pa_nil)))) (pa_cons (pe_lst (pa_cons pe_bl (pa_cons pe_bl (pa_cons pe_bl (pa_cons pe_bl (pa_cons pe_bl (pa_cons pe_bl pa_nil))))))) pa_nil))))) (pss_one (ps_ret pe_bl)) pss_nil)
          (pss_cons (ps_if (pt_not (pt_val (pe_callG Gs hgd hr (by rfl) gs kps bs (pa_cons (pe_lst (pa_cons (pe_call G7 hr (by rfl) g7 kp7 b7 .nil pass0 (pa_cons (M.m.pNew (K := K) rfl hr2 (by rfl) (pa_cons (pe_tup (pa_cons pe_int pa_nil)) pa_nil)) (pa_cons (pe_tup (pa_cons pe_int pa_nil)) pa_nil))) (pa_cons (pe_call G8 hr (by rfl) g8 kp8 b8 .nil pass0 (pa_cons (M.m.pNew (K := K) rfl hr2 (by rfl) (pa_cons (pe_tup (pa_cons pe_int pa_nil)) pa_nil)) (pa_cons (pe_tup (pa_cons pe_int (pa_cons (pe_un un_neg pe_int) (pa_cons pe_int (pa_cons pe_int pa_nil))))) (pa_cons (pe_tup (pa_cons pe_int pa_nil)) pa_nil)))) pa_nil))) (pa_cons (pe_lst (pa_cons pe_bl (pa_cons (pe_tup (pa_cons pe_int (pa_cons pe_int pa_nil))) pa_nil))) pa_nil))))) (pss_one (ps_ret pe_bl)) pss_nil)
          (pss_cons (ps_asg (pe_tup (pa_cons (pe_op op_repT (pe_tup (pa_cons pe_int (pa_cons pe_int (pa_cons (pe_un un_neg pe_int) (pa_cons (pe_un un_neg pe_int) pa_nil))))) pe_int) (pa_cons (M.m.pNew (K := K) rfl hr2 (by rfl) (pa_cons (pe_tup (pa_cons pe_int (pa_cons (pe_un un_neg pe_int) (pa_cons pe_int pa_nil)))) pa_nil)) pa_nil))) (pg_tup rfl (pgs_cons (pg_name (i := 4) sc_law.nd rfl (.inl rfl)) (pgs_cons (pg_name (i := 5) sc_law.nd rfl (.inr rfl)) pgs_nil))))
          (pss_cons (ps_set (i := 2) sc_law.nd rfl (.inl rfl) (pe_lst (pa_cons (pv 4) (pa_cons (pe_op op_catT (pe_tup (pa_cons (pe_un un_neg pe_int) pa_nil)) (pe_slice sl_tup (pv 4) (po_some pe_int) po_none)) (pa_cons (pe_op op_catT (pe_op op_catT (pe_tup (pa_cons pe_int pa_nil)) (pe_op op_repT (pe_tup (pa_cons (pe_un un_neg pe_int) pa_nil)) pe_int)) (pe_tup (pa_cons pe_int (pa_cons (pe_un un_neg pe_int) pa_nil)))) (pa_cons (pe_op op_catT (pe_op op_catT (pe_tup (pa_cons pe_int pa_nil)) (pe_op op_repT (pe_tup (pa_cons (pe_un un_neg pe_int) pa_nil)) pe_int)) (pe_tup (pa_cons pe_int pa_nil))) pa_nil))))))
          (pss_cons (ps_if (pt_not (pt_val (pe_callG Gs hgd hr (by rfl) gs kps bs (pa_cons (pe_lc (own := [("_law_lap_here", 3)]) (g := gName 3) (tt := tYes) rfl sc_law.nd (pi_list (pv 2)) (blkOk_by (N := lawN) (sc := defScope s_law) (by decide +kernel)) (fun _ _ _ _ _ => pg_name (i := 3) sc_law.nd rfl (Or.inl rfl)) (fun _ _ _ _ _ => pts_nil) (fun _ _ _ _ _ => pe_call G7 hr (by rfl) g7 kp7 b7 .nil pass0 (pa_cons (pv 5) (pa_cons (pv 3) pa_nil)))) (pa_cons (pe_lst (pa_cons pe_bl (pa_cons pe_bl (pa_cons pe_bl (pa_cons pe_bl pa_nil))))) pa_nil))))) (pss_one (ps_ret pe_bl)) pss_nil)
          (pss_cons (ps_if (pt_not (pt_val (pe_callG Gs hgd hr (by rfl) gs kps bs (pa_cons (pe_lc (own := [("_law_lap_here", 3)]) (g := gName 3) (tt := tYes) rfl sc_law.nd (pi_list (pe_slice sl_list (pv 2) po_none (po_some pe_int))) (blkOk_by (N := lawN) (sc := defScope s_law) (by decide +kernel)) (fun _ _ _ _ _ => pg_name (i := 3) sc_law.nd rfl (Or.inl rfl)) (fun _ _ _ _ _ => pts_nil) (fun _ _ _ _ _ => pe_call G8 hr (by rfl) g8 kp8 b8 .nil pass0 (pa_cons (pv 5) (pa_cons (pv 3) (pa_cons (pe_tup (pa_cons pe_int pa_nil)) pa_nil))))) (pa_cons (pe_lst (pa_cons (pe_tup (pa_cons pe_int (pa_cons pe_int pa_nil))) (pa_cons (pe_tup (pa_cons pe_int (pa_cons pe_int pa_nil))) pa_nil))) pa_nil))))) (pss_one (ps_ret pe_bl)) pss_nil)
          (pss_cons (ps_for PassesOwn.never rfl (pi_list (pe_op op_cat (pe_lst (pa_cons (pe_call G1 hr (by rfl) g1 kp1 b1 .nil pass0 (pa_cons (pv 0) (pa_cons pe_int pa_nil))) pa_nil)) (pe_slice sl_list (pv 0) (po_some pe_int) (po_some pe_int)))) (pg_name (i := 6) sc_law.nd rfl (.inl rfl))
          (pss_cons (ps_set (i := 7) sc_law.nd rfl (.inl rfl) (pe_call G2 hr (by rfl) g2 kp2 b2 .nil pass0 (pa_cons (pv 6) pa_nil)))
          (pss_one (ps_for PassesOwn.never rfl (pi_range1 (by rfl) m2 (pa_cons pe_int pa_nil)) (pg_name (i := 8) sc_law.nd rfl (.inl rfl))
          (pss_cons (ps_set (i := 9) sc_law.nd rfl (.inl rfl) (pe_ifExp (pt_cmpR op_gt (pe_op op_mod (pv 8) pe_int) pe_int (nomark _)) (pe_call G4 hr (by rfl) g4 kp4 b4 .nil pass0 (pa_cons (pv 7) pa_nil)) (pe_tup (pa_cons (pe_call G3 hr (by rfl) g3 kp3 b3 .nil pass0 (pa_cons (pv 7) (pa_cons pe_int (pa_cons pe_int pa_nil)))) pa_nil))))
          (pss_one (ps_if (pt_not (pt_val (pe_callG Gr hgd hr (by rfl) gr kpr br (pa_cons (pv 9) (pa_cons (pe_call G5 hr (by rfl) g5 kp5 b5 .nil pass0 (pa_cons (pv 7) (pa_cons (pe_callB call_len_seq (by rfl) m1 PySem.boot_len (pa_cons (pv 9) pa_nil)) (pa_cons pe_int pa_nil)))) (pa_cons (pe_call G6 hr (by rfl) g6 kp6 b6 .nil pass0 (pa_cons (pv 7) (pa_cons (pe_callB call_len_seq (by rfl) m1 PySem.boot_len (pa_cons (pv 9) pa_nil)) pa_nil))) pa_nil)))))) (pss_one (ps_ret pe_bl)) pss_nil)))))))
          (pss_one (ps_ret pe_bl))))))))))), ?_⟩
    refine ⟨1, rfl, 1, rfl, 1, rfl, 1, rfl, by show 7 ≤ sizeLine; decide, fun t7 nt7 => ?_⟩
    have k1 : Same H (L2.upd H t7 (.tup [V.int 0, V.int 0, V.int (-1), V.int (-1), V.int (-1), V.int (-1), V.int 0])) := same_new nt7
    have f1 : (L2.upd H t7 (.tup [V.int 0, V.int 0, V.int (-1), V.int (-1), V.int (-1), V.int (-1), V.int 0])) t7 = some (.tup [V.int 0, V.int 0, V.int (-1), V.int (-1), V.int (-1), V.int (-1), V.int 0]) := upd_same
    generalize L2.upd H t7 (.tup [V.int 0, V.int 0, V.int (-1), V.int (-1), V.int (-1), V.int (-1), V.int 0]) = G1 at k1 f1 ⊢
    refine ⟨1, rfl, 1, rfl, by show 3 ≤ sizeLine; decide, fun p1 np1 => ?_⟩
    have k2 : Same G1 (L2.upd G1 p1 (.tup [V.int 0, V.int (-1), V.int (-1)])) := same_new np1
    have f2 : (L2.upd G1 p1 (.tup [V.int 0, V.int (-1), V.int (-1)])) p1 = some (.tup [V.int 0, V.int (-1), V.int (-1)]) := upd_same
    generalize L2.upd G1 p1 (.tup [V.int 0, V.int (-1), V.int (-1)]) = G2 at k2 f2 ⊢
    refine ⟨1, rfl, 1, rfl, 1, rfl, by show 4 ≤ sizeLine; decide, fun p2 np2 => ?_⟩
    have k3 : Same G2 (L2.upd G2 p2 (.tup [V.int 0, V.int (-1), V.int (-1), V.int (-1)])) := same_new np2
    have f3 : (L2.upd G2 p2 (.tup [V.int 0, V.int (-1), V.int (-1), V.int (-1)])) p2 = some (.tup [V.int 0, V.int (-1), V.int (-1), V.int (-1)]) := upd_same
    generalize L2.upd G2 p2 (.tup [V.int 0, V.int (-1), V.int (-1), V.int (-1)]) = G3 at k3 f3 ⊢
    refine ⟨1, rfl, 1, rfl, 1, rfl, 1, rfl, 1, rfl, by show 7 ≤ sizeLine; decide, fun p3 np3 => ?_⟩
    have k4 : Same G3 (L2.upd G3 p3 (.tup [V.int (-1), V.int (-1), V.int (-1), V.int 0, V.int (-1), V.int (-1), V.int 0])) := same_new np3
    have f4 : (L2.upd G3 p3 (.tup [V.int (-1), V.int (-1), V.int (-1), V.int 0, V.int (-1), V.int (-1), V.int 0])) p3 = some (.tup [V.int (-1), V.int (-1), V.int (-1), V.int 0, V.int (-1), V.int (-1), V.int 0]) := upd_same
    generalize L2.upd G3 p3 (.tup [V.int (-1), V.int (-1), V.int (-1), V.int 0, V.int (-1), V.int (-1), V.int 0]) = G4 at k4 f4 ⊢
    refine ⟨1, rfl, by show 1 ≤ sizeLine; decide, fun p4 np4 => ?_⟩
    have k5 : Same G4 (L2.upd G4 p4 (.tup [V.int (-1)])) := same_new np4
    have f5 : (L2.upd G4 p4 (.tup [V.int (-1)])) p4 = some (.tup [V.int (-1)]) := upd_same
    generalize L2.upd G4 p4 (.tup [V.int (-1)]) = G5 at k5 f5 ⊢
    refine ⟨by show 1 ≤ sizeLine; decide, fun p5 np5 => ?_⟩
    have k6 : Same G5 (L2.upd G5 p5 (.tup [V.int 0])) := same_new np5
    have f6 : (L2.upd G5 p5 (.tup [V.int 0])) p5 = some (.tup [V.int 0]) := upd_same
    generalize L2.upd G5 p5 (.tup [V.int 0]) = G6 at k6 f6 ⊢
    refine ⟨1, rfl, 1, rfl, by show 5 ≤ sizeLine; decide, fun u1 nu1 => ?_⟩
    have k7 : Same G6 (L2.upd G6 u1 (.tup [V.int 0, V.int (-1), V.int 0, V.int (-1), V.int 0])) := same_new nu1
    have f7 : (L2.upd G6 u1 (.tup [V.int 0, V.int (-1), V.int 0, V.int (-1), V.int 0])) u1 = some (.tup [V.int 0, V.int (-1), V.int 0, V.int (-1), V.int 0]) := upd_same
    generalize L2.upd G6 u1 (.tup [V.int 0, V.int (-1), V.int 0, V.int (-1), V.int 0]) = G7 at k7 f7 ⊢
    refine ⟨1, rfl, by show 1 ≤ sizeLine; decide, fun u2 nu2 => ?_⟩
    have k8 : Same G7 (L2.upd G7 u2 (.tup [V.int (-1)])) := same_new nu2
    have f8 : (L2.upd G7 u2 (.tup [V.int (-1)])) u2 = some (.tup [V.int (-1)]) := upd_same
    generalize L2.upd G7 u2 (.tup [V.int (-1)]) = G8 at k8 f8 ⊢
    refine ⟨u2, 6, _, rfl, rfl, .of f8, by decide, by decide, by decide, by decide, fun u3 nu3 => ?_⟩
    have k9 : Same G8 (L2.upd G8 u3 (.tup (List.replicate (6 : Int).toNat [V.int (-1)]).flatten)) := same_new nu3
    have f9 : (L2.upd G8 u3 (.tup (List.replicate (6 : Int).toNat [V.int (-1)]).flatten)) u3 = some (.tup (List.replicate (6 : Int).toNat [V.int (-1)]).flatten) := upd_same
    generalize L2.upd G8 u3 (.tup (List.replicate (6 : Int).toNat [V.int (-1)]).flatten) = G9 at k9 f9 ⊢
    refine ⟨u1, u3, _, _, rfl, rfl, .of (k9 _ _ (k8 _ _ (f7))), .of (f9), by decide, by decide, (fun z => absurd z (by decide)), fun _ p6 np6 => ?_⟩
    have k10 : Same G9 (L2.upd G9 p6 (.tup ([V.int 0, V.int (-1), V.int 0, V.int (-1), V.int 0] ++ (List.replicate (6 : Int).toNat [V.int (-1)]).flatten))) := same_new np6
    have f10 : (L2.upd G9 p6 (.tup ([V.int 0, V.int (-1), V.int 0, V.int (-1), V.int 0] ++ (List.replicate (6 : Int).toNat [V.int (-1)]).flatten))) p6 = some (.tup ([V.int 0, V.int (-1), V.int 0, V.int (-1), V.int 0] ++ (List.replicate (6 : Int).toNat [V.int (-1)]).flatten)) := upd_same
    generalize L2.upd G9 p6 (.tup ([V.int 0, V.int (-1), V.int 0, V.int (-1), V.int 0] ++ (List.replicate (6 : Int).toNat [V.int (-1)]).flatten)) = G10 at k10 f10 ⊢
    refine ⟨by show 6 ≤ sizeLine; decide, fun D1 nD1 => ?_⟩
    have k11 : Same G10 (L2.upd G10 D1 (.lst [V.ref p1, .ref p2, .ref p3, .ref p4, .ref p5, .ref p6])) := same_new nD1
    have f11 : (L2.upd G10 D1 (.lst [V.ref p1, .ref p2, .ref p3, .ref p4, .ref p5, .ref p6])) D1 = some (.lst [V.ref p1, .ref p2, .ref p3, .ref p4, .ref p5, .ref p6]) := upd_same
    generalize L2.upd G10 D1 (.lst [V.ref p1, .ref p2, .ref p3, .ref p4, .ref p5, .ref p6]) = G11 at k11 f11 ⊢
    have kH : Same H G11 := k1.trans (k2.trans (k3.trans (k4.trans (k5.trans (k6.trans (k7.trans (k8.trans (k9.trans (k10.trans (k11))))))))))
    have x7 : SqT K G11 t7 (w7.map V.int) := .of (k11 _ _ (k10 _ _ (k9 _ _ (k8 _ _ (k7 _ _ (k6 _ _ (k5 _ _ (k4 _ _ (k3 _ _ (k2 _ _ (f1)))))))))))
    have xs1 : TpAll K G11 [V.ref p1, .ref p2, .ref p3, .ref p4, .ref p5, .ref p6] (tDs laps1) := .on (.ofInts (.of (k11 _ _ (k10 _ _ (k9 _ _ (k8 _ _ (k7 _ _ (k6 _ _ (k5 _ _ (k4 _ _ (k3 _ _ (f2)))))))))))) (.on (.ofInts (.of (k11 _ _ (k10 _ _ (k9 _ _ (k8 _ _ (k7 _ _ (k6 _ _ (k5 _ _ (k4 _ _ (f3))))))))))) (.on (.ofInts (.of (k11 _ _ (k10 _ _ (k9 _ _ (k8 _ _ (k7 _ _ (k6 _ _ (k5 _ _ (f4)))))))))) (.on (.ofInts (.of (k11 _ _ (k10 _ _ (k9 _ _ (k8 _ _ (k7 _ _ (k6 _ _ (f5))))))))) (.on (.ofInts (.of (k11 _ _ (k10 _ _ (k9 _ _ (k8 _ _ (k7 _ _ (f6)))))))) (.on (.ofInts (ns := [0, -1, 0, -1, 0] ++ (List.replicate 6 [-1]).flatten) (.of (k11 _ _ (f10)))) .no)))))
    have hD1 := f11
    clear k1 f1 k2 f2 k3 f3 k4 f4 k5 f5 k6 f6 k7 f7 k8 f8 k9 f9 k10 f10 k11 f11
    generalize G11 = G at kH x7 xs1 hD1 ⊢

    refine ⟨.ref D1, rfl, D1, rfl, ⟨_, .of hD1⟩, fun T nT => ?_⟩
    have shB6 : Shows (.list [.bool false, .bool true, .bool true, .bool true, .bool false, .bool true]) := (Small.list (SmallAll.cons (Small.bool (c := 0)) (SmallAll.cons (Small.bool (c := 0)) (SmallAll.cons (Small.bool (c := 0)) (SmallAll.cons (Small.bool (c := 0)) (SmallAll.cons (Small.bool (c := 0)) (SmallAll.cons (Small.bool (c := 0)) (SmallAll.nil (n := 0) (b := 0))))))))).shows (by decide) (by decide)
    have nTH : H T = none := kH.free nT
    have lN1 : laps1.length = 6 := rfl
    refine lc_list (xs := [V.ref p1, .ref p2, .ref p3, .ref p4, .ref p5, .ref p6]) (fun i H' => Same G H' ∧ ∃ bs : List Bool, H' T = some (.lst (bs.map V.bl)) ∧ bs = (laps1.map (noClashB [w7])).take i)
      ⟨same_new nT, [], upd_same, rfl⟩ (fun i H' _ h => .of (h.1 _ _ hD1)) (fun i x H' hx h => ?_) (fun H1 h => ?_)
    · obtain ⟨eh, bs, hT, ebs⟩ := h
      obtain ⟨lp, q1, hlp, rfl, hq1⟩ := xs1.works hx
      have gl : GoodLap 1 lp := goodLap_of (List.all_eq_true.mp laps1_ok lp (List.mem_of_getElem? hlp))
      refine ⟨rfl, .ref t7, rfl, [w7], .on (.ofInts (Same.tup eh x7)) .no, one7, fun H2 m e2 nm hm => ?_⟩
      refine ⟨.ref q1, rfl, m, q1, [w7], lp, rfl, hm, Same.tup (eh.trans e2) hq1, gl, fun H3 r e3 hr3 => ?_⟩
      have er : r = noClashB [w7] lp := Bool.eq_iff_iff.mpr (hr3.trans (noClashB_iff (ws := [w7]) gl).symm)
      have e23 := e2.trans e3
      have hi : i < 6 := (List.getElem?_eq_some_iff.mp hx).1
      have lb : bs.length = i := by rw [ebs, List.length_take, List.length_map, lN1]; omega
      refine ⟨_, e23 _ _ hT, by rw [List.length_map]; exact small1000 (by omega), fun y o g => ?_, bs ++ [r], ?_, ?_⟩
      · rw [upd_ne (ne_of_none g nT)]
        exact e23 _ _ (eh _ _ g)
      · rw [upd_same, List.map_append]
        rfl
      · rw [ebs, er]
        have : (laps1.map (noClashB [w7]))[i]? = some (noClashB [w7] lp) := by rw [List.getElem?_map, hlp]; rfl
        rw [List.take_add_one, this]
        rfl
    obtain ⟨eh, bs, hT, ebs⟩ := h
    obtain rfl : bs = [false, true, true, true, false, true] := by
      rw [ebs, laps1_told]
      rfl
    refine ⟨by show 6 ≤ sizeLine; decide, fun D2 nD2 => ?_⟩
    have e2 : Same H1 (L2.upd H1 D2 (.lst [V.bl false, .bl true, .bl true, .bl true, .bl false, .bl true])) := same_new nD2
    have hD2 : (L2.upd H1 D2 (.lst [V.bl false, .bl true, .bl true, .bl true, .bl false, .bl true])) D2 = some (.lst [V.bl false, .bl true, .bl true, .bl true, .bl false, .bl true]) := upd_same
    generalize L2.upd H1 D2 (.lst [V.bl false, .bl true, .bl true, .bl true, .bl false, .bl true]) = H2 at e2 hD2 ⊢
    refine ⟨.inl ⟨T, D2, .list [.bool false, .bool true, .bool true, .bool true, .bool false, .bool true], rfl, .lst (.of (e2 _ _ hT)) (.cons (.bl _) (.cons (.bl _) (.cons (.bl _) (.cons (.bl _) (.cons (.bl _) (.cons (.bl _) .nil)))))), .lst (.of hD2) (.cons (.bl _) (.cons (.bl _) (.cons (.bl _) (.cons (.bl _) (.cons (.bl _) (.cons (.bl _) .nil)))))),
      shB6⟩, ?_⟩
    have kA : Same H H2 := kH.trans (eh.trans e2)
    clear ebs
    refine ⟨true, rfl, iteF ?_⟩
    refine ⟨by show 1 ≤ sizeLine; decide, fun v1 nv1 => ?_⟩
    have kv1 : Same H2 (L2.upd H2 v1 (.tup [V.int 2])) := same_new nv1
    have fv1 : (L2.upd H2 v1 (.tup [V.int 2])) v1 = some (.tup [V.int 2]) := upd_same
    generalize L2.upd H2 v1 (.tup [V.int 2]) = H3 at kv1 fv1 ⊢
    refine ⟨[[2]], .on (.ofInts (.of fv1)) .no, one2, fun H4 m1 e4 nm1 hm1 => ?_⟩
    refine ⟨by show 1 ≤ sizeLine; decide, fun v2 nv2 => ?_⟩
    have kv2 : Same H4 (L2.upd H4 v2 (.tup [V.int 0])) := same_new nv2
    have fv2 : (L2.upd H4 v2 (.tup [V.int 0])) v2 = some (.tup [V.int 0]) := upd_same
    generalize L2.upd H4 v2 (.tup [V.int 0]) = H5 at kv2 fv2 ⊢
    refine ⟨m1, v2, [[2]], [0], rfl, hm1.stay (.of kv2), .of fv2, goodLap_of (by decide), fun H6 r e6 hr6 => ?_⟩
    obtain rfl : r = true := hr6.mpr ((noClashB_iff (ws := [[2]]) (goodLap_of (by decide))).mp fits2)
    refine ⟨by show 1 ≤ sizeLine; decide, fun v3 nv3 => ?_⟩
    have kv3 : Same H6 (L2.upd H6 v3 (.tup [V.int 2])) := same_new nv3
    have fv3 : (L2.upd H6 v3 (.tup [V.int 2])) v3 = some (.tup [V.int 2]) := upd_same
    generalize L2.upd H6 v3 (.tup [V.int 2]) = H7 at kv3 fv3 ⊢
    refine ⟨[[2]], .on (.ofInts (.of fv3)) .no, one2, fun H8 m2 e8 nm2 hm2 => ?_⟩
    refine ⟨1, rfl, by show 4 ≤ sizeLine; decide, fun v4 nv4 => ?_⟩
    have kv4 : Same H8 (L2.upd H8 v4 (.tup [V.int 0, V.int (-1), V.int 0, V.int 0])) := same_new nv4
    have fv4 : (L2.upd H8 v4 (.tup [V.int 0, V.int (-1), V.int 0, V.int 0])) v4 = some (.tup [V.int 0, V.int (-1), V.int 0, V.int 0]) := upd_same
    generalize L2.upd H8 v4 (.tup [V.int 0, V.int (-1), V.int 0, V.int 0]) = H9 at kv4 fv4 ⊢
    refine ⟨by show 1 ≤ sizeLine; decide, fun v5 nv5 => ?_⟩
    have kv5 : Same H9 (L2.upd H9 v5 (.tup [V.int 8])) := same_new nv5
    have fv5 : (L2.upd H9 v5 (.tup [V.int 8])) v5 = some (.tup [V.int 8]) := upd_same
    generalize L2.upd H9 v5 (.tup [V.int 8]) = H10 at kv5 fv5 ⊢
    refine ⟨m2, v4, v5, [[2]], [0, -1, 0, 0], [8], rfl, hm2.stay (.of (kv4.trans kv5)), .of (kv5 _ _ fv4), goodLap_of (by decide), .of fv5, wt8, fun H11 p e11 hp => ?_⟩
    rw [mean2] at hp
    refine ⟨by show 2 ≤ sizeLine; decide, fun v6 nv6 => ?_⟩
    have kv6 : Same H11 (L2.upd H11 v6 (.lst [V.bl true, .ref p])) := same_new nv6
    have fv6 : (L2.upd H11 v6 (.lst [V.bl true, .ref p])) v6 = some (.lst [V.bl true, .ref p]) := upd_same
    generalize L2.upd H11 v6 (.lst [V.bl true, .ref p]) = H12 at kv6 fv6 ⊢
    refine ⟨by show 2 ≤ sizeLine; decide, fun v7 nv7 => ?_⟩
    have kv7 : Same H12 (L2.upd H12 v7 (.tup [V.int 6, V.int 1])) := same_new nv7
    have fv7 : (L2.upd H12 v7 (.tup [V.int 6, V.int 1])) v7 = some (.tup [V.int 6, V.int 1]) := upd_same
    generalize L2.upd H12 v7 (.tup [V.int 6, V.int 1]) = H13 at kv7 fv7 ⊢
    refine ⟨by show 2 ≤ sizeLine; decide, fun v8 nv8 => ?_⟩
    have kv8 : Same H13 (L2.upd H13 v8 (.lst [V.bl true, .ref v7])) := same_new nv8
    have fv8 : (L2.upd H13 v8 (.lst [V.bl true, .ref v7])) v8 = some (.lst [V.bl true, .ref v7]) := upd_same
    generalize L2.upd H13 v8 (.lst [V.bl true, .ref v7]) = H14 at kv8 fv8 ⊢
    have sh61 : Shows (.list [.bool true, .tuple (iD [6, 1])]) := (Small.list (SmallAll.cons (Small.bool (c := 5)) (SmallAll.cons (Small.tuple (SmallAll.ints [6, 1] (n := 0) (by decide))) (SmallAll.nil (b := 0))))).shows (by decide) (by decide)
    have hp14 := Same.tup (kv6.trans (kv7.trans kv8)) hp
    refine ⟨.inl ⟨v6, v8, .list [.bool true, .tuple (iD [6, 1])], rfl, .lst (.of (kv8 _ _ (kv7 _ _ fv6))) (.cons (.bl _) (.cons (Tp.ofInts hp14).dp .nil)), .lst (.of fv8) (.cons (.bl _) (.cons (Tp.ofInts (ns := [6, 1]) (.of (kv8 _ _ fv7))).dp .nil)), sh61⟩, ?_⟩
    have kB : Same H H14 := kA.trans (kv1.trans (e4.trans (kv2.trans (e6.trans (kv3.trans (e8.trans (kv4.trans (kv5.trans (e11.trans (kv6.trans (kv7.trans kv8)))))))))))
    clear kv1 e4 kv2 e6 kv3 e8 kv4 kv5 e11 kv6 kv7 kv8 fv1 fv2 fv3 fv4 fv5 fv6 fv7 fv8 hp hp14 hm1 hm2 hr6 nm1 nm2
    refine ⟨true, rfl, iteF ?_⟩
    refine ⟨1, rfl, 1, rfl, by show 4 ≤ sizeLine; decide, fun w1 nw1 => ?_⟩
    have kw1 : Same H14 (L2.upd H14 w1 (.tup [V.int 0, V.int 0, V.int (-1), V.int (-1)])) := same_new nw1
    have fw1 : (L2.upd H14 w1 (.tup [V.int 0, V.int 0, V.int (-1), V.int (-1)])) w1 = some (.tup [V.int 0, V.int 0, V.int (-1), V.int (-1)]) := upd_same
    generalize L2.upd H14 w1 (.tup [V.int 0, V.int 0, V.int (-1), V.int (-1)]) = H15 at kw1 fw1 ⊢
    have eLong : (List.replicate (150 : Int).toNat [V.int 0, V.int 0, V.int (-1), V.int (-1)]).flatten = longL.map V.int := by rw [longL, List.map_flatten, List.map_replicate]; rfl
    refine ⟨w1, 150, _, rfl, rfl, .of fw1, by decide, by decide, by decide, by decide, fun w2 nw2 => ?_⟩
    rw [eLong]
    have kw2 : Same H15 (L2.upd H15 w2 (.tup (longL.map V.int))) := same_new nw2
    have fw2 : (L2.upd H15 w2 (.tup (longL.map V.int))) w2 = some (.tup (longL.map V.int)) := upd_same
    generalize L2.upd H15 w2 (.tup (longL.map V.int)) = H16 at kw2 fw2 ⊢
    refine ⟨1, rfl, by show 3 ≤ sizeLine; decide, fun w3 nw3 => ?_⟩
    have kw3 : Same H16 (L2.upd H16 w3 (.tup [V.int 0, V.int (-1), V.int 0])) := same_new nw3
    have fw3 : (L2.upd H16 w3 (.tup [V.int 0, V.int (-1), V.int 0])) w3 = some (.tup [V.int 0, V.int (-1), V.int 0]) := upd_same
    generalize L2.upd H16 w3 (.tup [V.int 0, V.int (-1), V.int 0]) = H17 at kw3 fw3 ⊢
    refine ⟨[wa], .on (.ofInts (.of fw3)) .no, onea, fun H18 m3 e18 nm3 hm3 => ?_⟩
    refine ⟨by show 2 ≤ sizeLine; decide, fun w4 nw4 => ?_⟩
    have kw4 : Same H18 (L2.upd H18 w4 (.tup [V.ref w2, .ref m3])) := same_new nw4
    have fw4 : (L2.upd H18 w4 (.tup [V.ref w2, .ref m3])) w4 = some (.tup [V.ref w2, .ref m3]) := upd_same
    generalize L2.upd H18 w4 (.tup [V.ref w2, .ref m3]) = H19 at kw4 fw4 ⊢
    refine ⟨w4, _, rfl, .of fw4, rfl, _, _, rfl, _, _, rfl, rfl, ?_⟩
    have hm19 := hm3.stay (.of kw4)
    have fl19 : H19 w2 = some (.tup (longL.map V.int)) := kw4 _ _ (e18 _ _ (kw3 _ _ fw2))
    have kC : Same H H19 := kB.trans (kw1.trans (kw2.trans (kw3.trans (e18.trans kw4))))
    clear kw1 kw2 kw3 e18 kw4 fw1 fw2 fw3 fw4 hm3 nm3 nw1 nw2 nw3 nw4
    have catM : ∀ a b : List Int, a.map V.int ++ b.map V.int = (a ++ b).map V.int := fun a b => List.map_append.symm
    have repM : ∀ n : Nat, (List.replicate n [V.int (-1)]).flatten = ((List.replicate n [(-1 : Int)]).flatten).map V.int := fun n => by rw [List.map_flatten, List.map_replicate]; rfl
    refine ⟨.ref w2, rfl, 1, rfl, by show 1 ≤ sizeLine; decide, fun x1 nx1 => ?_⟩
    have kx1 : Same H19 (L2.upd H19 x1 (.tup [V.int (-1)])) := same_new nx1
    have fx1 : (L2.upd H19 x1 (.tup [V.int (-1)])) x1 = some (.tup [V.int (-1)]) := upd_same
    generalize L2.upd H19 x1 (.tup [V.int (-1)]) = H20 at kx1 fx1 ⊢
    refine ⟨.ref w2, rfl, 1, rfl, w2, _, rfl, .of (kx1 _ _ fl19), (fun z => absurd z.1 (by decide +kernel)), fun x2 nx2 => ?_⟩
    rw [show cutV (longL.map V.int) (some 1) none = (longL.drop 1).map V.int from rfl]
    have kx2 : Same H20 (L2.upd H20 x2 (.tup ((longL.drop 1).map V.int))) := same_new nx2
    have fx2 : (L2.upd H20 x2 (.tup ((longL.drop 1).map V.int))) x2 = some (.tup ((longL.drop 1).map V.int)) := upd_same
    generalize L2.upd H20 x2 (.tup ((longL.drop 1).map V.int)) = H21 at kx2 fx2 ⊢
    refine ⟨x1, x2, _, _, rfl, rfl, .of (kx2 _ _ fx1), .of fx2, (fun z => nomatch z), by decide +kernel, (fun z => absurd (congrArg List.length z) (by decide +kernel)), fun _ x3 nx3 => ?_⟩
    rw [show [V.int (-1)] ++ (longL.drop 1).map V.int = ([-1] ++ longL.drop 1).map V.int from rfl]
    have kx3 : Same H21 (L2.upd H21 x3 (.tup (([-1] ++ longL.drop 1).map V.int))) := same_new nx3
    have fx3 : (L2.upd H21 x3 (.tup (([-1] ++ longL.drop 1).map V.int))) x3 = some (.tup (([-1] ++ longL.drop 1).map V.int)) := upd_same
    generalize L2.upd H21 x3 (.tup (([-1] ++ longL.drop 1).map V.int)) = H22 at kx3 fx3 ⊢
    refine ⟨by show 1 ≤ sizeLine; decide, fun x4 nx4 => ?_⟩
    have kx4 : Same H22 (L2.upd H22 x4 (.tup [V.int 0])) := same_new nx4
    have fx4 : (L2.upd H22 x4 (.tup [V.int 0])) x4 = some (.tup [V.int 0]) := upd_same
    generalize L2.upd H22 x4 (.tup [V.int 0]) = H23 at kx4 fx4 ⊢
    refine ⟨1, rfl, by show 1 ≤ sizeLine; decide, fun x5 nx5 => ?_⟩
    have kx5 : Same H23 (L2.upd H23 x5 (.tup [V.int (-1)])) := same_new nx5
    have fx5 : (L2.upd H23 x5 (.tup [V.int (-1)])) x5 = some (.tup [V.int (-1)]) := upd_same
    generalize L2.upd H23 x5 (.tup [V.int (-1)]) = H24 at kx5 fx5 ⊢
    refine ⟨x5, 597, _, rfl, rfl, .of fx5, (fun z => nomatch z), by decide, by decide, by decide, fun x6 nx6 => ?_⟩
    rw [show (597 : Int).toNat = 597 from rfl, repM 597]
    have kx6 : Same H24 (L2.upd H24 x6 (.tup (((List.replicate 597 [(-1 : Int)]).flatten).map V.int))) := same_new nx6
    have fx6 : (L2.upd H24 x6 (.tup (((List.replicate 597 [(-1 : Int)]).flatten).map V.int))) x6 = some (.tup (((List.replicate 597 [(-1 : Int)]).flatten).map V.int)) := upd_same
    generalize L2.upd H24 x6 (.tup (((List.replicate 597 [(-1 : Int)]).flatten).map V.int)) = H25 at kx6 fx6 ⊢
    refine ⟨x4, x6, _, _, rfl, rfl, .of (kx6 _ _ (kx5 _ _ fx4)), .of fx6, (fun z => nomatch z), by decide +kernel, (fun z => absurd (congrArg List.length z) (by decide +kernel)), fun _ x7 nx7 => ?_⟩
    rw [show [V.int 0] ++ ((List.replicate 597 [(-1 : Int)]).flatten).map V.int = ([0] ++ (List.replicate 597 [(-1 : Int)]).flatten).map V.int from rfl]
    have kx7 : Same H25 (L2.upd H25 x7 (.tup (([0] ++ (List.replicate 597 [(-1 : Int)]).flatten).map V.int))) := same_new nx7
    have fx7 : (L2.upd H25 x7 (.tup (([0] ++ (List.replicate 597 [(-1 : Int)]).flatten).map V.int))) x7 = some (.tup (([0] ++ (List.replicate 597 [(-1 : Int)]).flatten).map V.int)) := upd_same
    generalize L2.upd H25 x7 (.tup (([0] ++ (List.replicate 597 [(-1 : Int)]).flatten).map V.int)) = H26 at kx7 fx7 ⊢
    refine ⟨1, rfl, by show 2 ≤ sizeLine; decide, fun x8 nx8 => ?_⟩
    have kx8 : Same H26 (L2.upd H26 x8 (.tup [V.int 0, V.int (-1)])) := same_new nx8
    have fx8 : (L2.upd H26 x8 (.tup [V.int 0, V.int (-1)])) x8 = some (.tup [V.int 0, V.int (-1)]) := upd_same
    generalize L2.upd H26 x8 (.tup [V.int 0, V.int (-1)]) = H27 at kx8 fx8 ⊢
    refine ⟨x7, x8, _, _, rfl, rfl, .of (kx8 _ _ fx7), .of fx8, (fun z => nomatch z), by decide +kernel, (fun z => nomatch z), fun _ x9 nx9 => ?_⟩
    rw [show (([0] ++ (List.replicate 597 [(-1 : Int)]).flatten : List Int)).map V.int ++ [V.int 0, V.int (-1)] = (([0] ++ (List.replicate 597 [(-1 : Int)]).flatten) ++ [0, -1] : List Int).map V.int from catM _ [0, -1]]
    have kx9 : Same H27 (L2.upd H27 x9 (.tup ((([0] ++ (List.replicate 597 [(-1 : Int)]).flatten) ++ [0, -1]).map V.int))) := same_new nx9
    have fx9 : (L2.upd H27 x9 (.tup ((([0] ++ (List.replicate 597 [(-1 : Int)]).flatten) ++ [0, -1]).map V.int))) x9 = some (.tup ((([0] ++ (List.replicate 597 [(-1 : Int)]).flatten) ++ [0, -1]).map V.int)) := upd_same
    generalize L2.upd H27 x9 (.tup ((([0] ++ (List.replicate 597 [(-1 : Int)]).flatten) ++ [0, -1]).map V.int)) = H28 at kx9 fx9 ⊢
    refine ⟨by show 1 ≤ sizeLine; decide, fun y4 ny4 => ?_⟩
    have ky4 : Same H28 (L2.upd H28 y4 (.tup [V.int 0])) := same_new ny4
    have fy4 : (L2.upd H28 y4 (.tup [V.int 0])) y4 = some (.tup [V.int 0]) := upd_same
    generalize L2.upd H28 y4 (.tup [V.int 0]) = H29 at ky4 fy4 ⊢
    refine ⟨1, rfl, by show 1 ≤ sizeLine; decide, fun y5 ny5 => ?_⟩
    have ky5 : Same H29 (L2.upd H29 y5 (.tup [V.int (-1)])) := same_new ny5
    have fy5 : (L2.upd H29 y5 (.tup [V.int (-1)])) y5 = some (.tup [V.int (-1)]) := upd_same
    generalize L2.upd H29 y5 (.tup [V.int (-1)]) = H30 at ky5 fy5 ⊢
    refine ⟨y5, 598, _, rfl, rfl, .of fy5, (fun z => nomatch z), by decide, by decide, by decide, fun y6 ny6 => ?_⟩
    rw [show (598 : Int).toNat = 598 from rfl, repM 598]
    have ky6 : Same H30 (L2.upd H30 y6 (.tup (((List.replicate 598 [(-1 : Int)]).flatten).map V.int))) := same_new ny6
    have fy6 : (L2.upd H30 y6 (.tup (((List.replicate 598 [(-1 : Int)]).flatten).map V.int))) y6 = some (.tup (((List.replicate 598 [(-1 : Int)]).flatten).map V.int)) := upd_same
    generalize L2.upd H30 y6 (.tup (((List.replicate 598 [(-1 : Int)]).flatten).map V.int)) = H31 at ky6 fy6 ⊢
    refine ⟨y4, y6, _, _, rfl, rfl, .of (ky6 _ _ (ky5 _ _ fy4)), .of fy6, (fun z => nomatch z), by decide +kernel, (fun z => absurd (congrArg List.length z) (by decide +kernel)), fun _ y7 ny7 => ?_⟩
    rw [show [V.int 0] ++ ((List.replicate 598 [(-1 : Int)]).flatten).map V.int = ([0] ++ (List.replicate 598 [(-1 : Int)]).flatten).map V.int from rfl]
    have ky7 : Same H31 (L2.upd H31 y7 (.tup (([0] ++ (List.replicate 598 [(-1 : Int)]).flatten).map V.int))) := same_new ny7
    have fy7 : (L2.upd H31 y7 (.tup (([0] ++ (List.replicate 598 [(-1 : Int)]).flatten).map V.int))) y7 = some (.tup (([0] ++ (List.replicate 598 [(-1 : Int)]).flatten).map V.int)) := upd_same
    generalize L2.upd H31 y7 (.tup (([0] ++ (List.replicate 598 [(-1 : Int)]).flatten).map V.int)) = H32 at ky7 fy7 ⊢
    refine ⟨by show 1 ≤ sizeLine; decide, fun y8 ny8 => ?_⟩
    have ky8 : Same H32 (L2.upd H32 y8 (.tup [V.int 0])) := same_new ny8
    have fy8 : (L2.upd H32 y8 (.tup [V.int 0])) y8 = some (.tup [V.int 0]) := upd_same
    generalize L2.upd H32 y8 (.tup [V.int 0]) = H33 at ky8 fy8 ⊢
    refine ⟨y7, y8, _, _, rfl, rfl, .of (ky8 _ _ fy7), .of fy8, (fun z => nomatch z), by decide +kernel, (fun z => nomatch z), fun _ y9 ny9 => ?_⟩
    rw [show (([0] ++ (List.replicate 598 [(-1 : Int)]).flatten : List Int)).map V.int ++ [V.int 0] = (([0] ++ (List.replicate 598 [(-1 : Int)]).flatten) ++ [0] : List Int).map V.int from catM _ [0]]
    have ky9 : Same H33 (L2.upd H33 y9 (.tup ((([0] ++ (List.replicate 598 [(-1 : Int)]).flatten) ++ [0]).map V.int))) := same_new ny9
    have fy9 : (L2.upd H33 y9 (.tup ((([0] ++ (List.replicate 598 [(-1 : Int)]).flatten) ++ [0]).map V.int))) y9 = some (.tup ((([0] ++ (List.replicate 598 [(-1 : Int)]).flatten) ++ [0]).map V.int)) := upd_same
    generalize L2.upd H33 y9 (.tup ((([0] ++ (List.replicate 598 [(-1 : Int)]).flatten) ++ [0]).map V.int)) = H34 at ky9 fy9 ⊢
    refine ⟨by show 4 ≤ sizeLine; decide, fun D3 nD3 => ?_⟩
    have kD3 : Same H34 (L2.upd H34 D3 (.lst [V.ref w2, .ref x3, .ref x9, .ref y9])) := same_new nD3
    have fD3 : (L2.upd H34 D3 (.lst [V.ref w2, .ref x3, .ref x9, .ref y9])) D3 = some (.lst [V.ref w2, .ref x3, .ref x9, .ref y9]) := upd_same
    generalize L2.upd H34 D3 (.lst [V.ref w2, .ref x3, .ref x9, .ref y9]) = H35 at kD3 fD3 ⊢
    have k35 : Same H19 H35 := kx1.trans (kx2.trans (kx3.trans (kx4.trans (kx5.trans (kx6.trans (kx7.trans (kx8.trans (kx9.trans (ky4.trans (ky5.trans (ky6.trans (ky7.trans (ky8.trans (ky9.trans (kD3)))))))))))))))
    have k3 : Same H22 H35 := kx4.trans (kx5.trans (kx6.trans (kx7.trans (kx8.trans (kx9.trans (ky4.trans (ky5.trans (ky6.trans (ky7.trans (ky8.trans (ky9.trans (kD3))))))))))))
    have k9 : Same H28 H35 := ky4.trans (ky5.trans (ky6.trans (ky7.trans (ky8.trans (ky9.trans (kD3))))))
    have xs2 : TpAll K H35 [V.ref w2, .ref x3, .ref x9, .ref y9] (tDs laps2) := .on (.ofInts (ns := longL) (.of (k35 _ _ fl19))) (.on (.ofInts (ns := [-1] ++ longL.drop 1) (.of (k3 _ _ fx3))) (.on (.ofInts (ns := ([0] ++ (List.replicate 597 [(-1 : Int)]).flatten) ++ [0, -1]) (.of (k9 _ _ fx9))) (.on (.ofInts (ns := ([0] ++ (List.replicate 598 [(-1 : Int)]).flatten) ++ [0]) (.of (kD3 _ _ fy9))) .no)))
    have hm35 := hm19.stay (.of k35)
    have hD3 := fD3
    have kD : Same H H35 := kC.trans k35
    clear kx1 kx2 kx3 kx4 kx5 kx6 kx7 kx8 kx9 ky4 ky5 ky6 ky7 ky8 ky9 kD3 k35 k3 k9 fx1 fx2 fx3 fx4 fx5 fx6 fx7 fx8 fx9 fy4 fy5 fy6 fy7 fy8 fy9 fD3 repM hm19 fl19 kC kB kA
    refine ⟨.ref D3, rfl, D3, rfl, ⟨_, .of hD3⟩, fun T3 nT3 => ?_⟩
    have shB4 : Shows (.list [.bool true, .bool true, .bool false, .bool true]) := (Small.list (SmallAll.cons (Small.bool (c := 0)) (SmallAll.cons (Small.bool (c := 0)) (SmallAll.cons (Small.bool (c := 0)) (SmallAll.cons (Small.bool (c := 0)) (SmallAll.nil (n := 0) (b := 0))))))).shows (by decide) (by decide)
    have lN2 : laps2.length = 4 := rfl
    refine lc_list (xs := [V.ref w2, .ref x3, .ref x9, .ref y9]) (fun i H' => Same H35 H' ∧ ∃ bs : List Bool, H' T3 = some (.lst (bs.map V.bl)) ∧ bs = (laps2.map (noClashB [wa])).take i)
      ⟨same_new nT3, [], upd_same, rfl⟩ (fun i H' _ h => .of (h.1 _ _ hD3)) (fun i x H' hx h => ?_) (fun H36 h => ?_)
    · obtain ⟨eh, bs, hT, ebs⟩ := h
      obtain ⟨lp, q1, hlp, rfl, hq1⟩ := xs2.works hx
      have gl : GoodLap 1 lp := goodLap_of (List.all_eq_true.mp laps2_ok lp (List.mem_of_getElem? hlp))
      refine ⟨rfl, .ref m3, rfl, .ref q1, rfl, m3, q1, [wa], lp, rfl, hm35.stay (.of eh), Same.tup eh hq1, gl, fun H3 r e3 hr3 => ?_⟩
      have er : r = noClashB [wa] lp := Bool.eq_iff_iff.mpr (hr3.trans (noClashB_iff (ws := [wa]) gl).symm)
      have hi : i < 4 := (List.getElem?_eq_some_iff.mp hx).1
      have lb : bs.length = i := by rw [ebs, List.length_take, List.length_map, lN2]; omega
      refine ⟨_, e3 _ _ hT, by rw [List.length_map]; exact small1000 (by omega), fun y o g => ?_, bs ++ [r], ?_, ?_⟩
      · rw [upd_ne (ne_of_none g nT3)]
        exact e3 _ _ (eh _ _ g)
      · rw [upd_same, List.map_append]
        rfl
      · rw [ebs, er]
        have : (laps2.map (noClashB [wa]))[i]? = some (noClashB [wa] lp) := by rw [List.getElem?_map, hlp]; rfl
        rw [List.take_add_one, this]
        rfl
    obtain ⟨e36, bs, hT3, ebs⟩ := h
    obtain rfl : bs = [true, true, false, true] := by
      rw [ebs, laps2_told]
      rfl
    refine ⟨by show 4 ≤ sizeLine; decide, fun D4 nD4 => ?_⟩
    have kD4 : Same H36 (L2.upd H36 D4 (.lst [V.bl true, .bl true, .bl false, .bl true])) := same_new nD4
    have fD4 : (L2.upd H36 D4 (.lst [V.bl true, .bl true, .bl false, .bl true])) D4 = some (.lst [V.bl true, .bl true, .bl false, .bl true]) := upd_same
    generalize L2.upd H36 D4 (.lst [V.bl true, .bl true, .bl false, .bl true]) = H37 at kD4 fD4 ⊢
    refine ⟨.inl ⟨T3, D4, .list [.bool true, .bool true, .bool false, .bool true], rfl, .lst (.of (kD4 _ _ hT3)) (.cons (.bl _) (.cons (.bl _) (.cons (.bl _) (.cons (.bl _) .nil)))), .lst (.of fD4) (.cons (.bl _) (.cons (.bl _) (.cons (.bl _) (.cons (.bl _) .nil)))), shB4⟩, true, rfl, iteF ?_⟩
    have k37 := e36.trans kD4
    have hm37 := hm35.stay (.of k37)
    have xs37 := xs2.stay (.of k37)
    have hD37 := k37 _ _ hD3
    have kE : Same H H37 := kD.trans k37
    clear ebs e36 kD4 fD4 hT3 xs2 hm35 hD3 kD
    refine ⟨.ref D3, rfl, 2, rfl, D3, _, rfl, .of hD37, fun S4 nS4 => ?_⟩
    rw [show cutV [V.ref w2, .ref x3, .ref x9, .ref y9] none (some 2) = [V.ref w2, .ref x3] from rfl]
    have kS4 : Same H37 (L2.upd H37 S4 (.lst [V.ref w2, .ref x3])) := same_new nS4
    have fS4 : (L2.upd H37 S4 (.lst [V.ref w2, .ref x3])) S4 = some (.lst [V.ref w2, .ref x3]) := upd_same
    generalize L2.upd H37 S4 (.lst [V.ref w2, .ref x3]) = H38 at kS4 fS4 ⊢
    have hm38 := hm37.stay (.of kS4)
    have xs38 : TpAll K H38 [V.ref w2, .ref x3] (tDs (laps2.take 2)) := (xs37.stay (.of kS4)).cut 2
    have lN3 : (laps2.take 2).length = 2 := rfl
    refine ⟨S4, rfl, ⟨_, .of fS4⟩, fun T4 nT4 => ?_⟩
    refine lc_list (xs := [V.ref w2, .ref x3]) (fun i H' => Same H38 H' ∧ ∃ ls : List Addr, H' T4 = some (.lst (ls.map V.ref)) ∧ TpAll K H' (ls.map V.ref) (tDs (((laps2.take 2).map fun lp => fracL (gainN [2] lp) lp.length).take i)))
      ⟨same_new nT4, [], upd_same, .no⟩ (fun i H' _ h => .of (h.1 _ _ fS4)) (fun i x H' hx h => ?_) (fun H39 h => ?_)
    · obtain ⟨eh, ls, hT, hls⟩ := h
      obtain ⟨lp, q1, hlp, rfl, hq1⟩ := xs38.works hx
      have gl : GoodLap 1 lp := goodLap_of (List.all_eq_true.mp laps2_ok lp (List.mem_of_mem_take (List.mem_of_getElem? hlp)))
      refine ⟨rfl, .ref m3, rfl, .ref q1, rfl, by show 1 ≤ sizeLine; decide, fun W2 nW2 => ?_⟩
      have eW : Same H' (L2.upd H' W2 (.tup [V.int 2])) := same_new nW2
      have hW2 : (L2.upd H' W2 (.tup [V.int 2])) W2 = some (.tup [V.int 2]) := upd_same
      generalize L2.upd H' W2 (.tup [V.int 2]) = H3 at eW hW2 ⊢
      refine ⟨m3, q1, W2, [wa], lp, [2], rfl, hm38.stay (.of (eh.trans eW)), Same.tup (eh.trans eW) hq1, gl, .of hW2, wt2, fun H4 p e4 hp => ?_⟩
      have e34 := eW.trans e4
      have hi : i < 2 := (List.getElem?_eq_some_iff.mp hx).1
      have ll : ls.length = i := by
        have := hls.len
        rw [List.length_map, List.length_map, List.length_take, List.length_map, lN3] at this
        omega
      refine ⟨_, e34 _ _ hT, by rw [List.length_map]; exact small1000 (by omega), fun y o g => ?_, ls ++ [p], ?_, ?_⟩
      · rw [upd_ne (ne_of_none g nT4)]
        exact e34 _ _ (eh _ _ g)
      · rw [upd_same, List.map_append]
        rfl
      · have e2 : ((laps2.take 2).map fun lp => fracL (gainN [2] lp) lp.length)[i]? = some (fracL (gainN [2] lp) lp.length) := by rw [List.getElem?_map, hlp]; rfl
        have tDa : ∀ u v : List (List Int), tDs (u ++ v) = tDs u ++ tDs v := fun u v => List.map_append
        rw [List.take_add_one, e2, List.map_append, tDa]
        have old := hls.stay (.of e34)
        exact ((old.add (.on (.ofInts hp) .no)).stayT fun a xs h => tup_upd (e34 _ _ hT) (fun _ z => nomatch z) (fun _ _ z => nomatch z) h)
    obtain ⟨e39, ls, hT4, hls⟩ := h
    rw [show ([V.ref w2, V.ref x3] : List V).length = 2 from rfl, gains2, show ([[1, 1], [299, 300]] : List (List Int)).take 2 = [[1, 1], [299, 300]] from rfl] at hls
    refine ⟨by show 2 ≤ sizeLine; decide, fun g1 ng1 => ?_⟩
    have kg1 : Same H39 (L2.upd H39 g1 (.tup [V.int 1, V.int 1])) := same_new ng1
    have fg1 : (L2.upd H39 g1 (.tup [V.int 1, V.int 1])) g1 = some (.tup [V.int 1, V.int 1]) := upd_same
    generalize L2.upd H39 g1 (.tup [V.int 1, V.int 1]) = H40 at kg1 fg1 ⊢
    refine ⟨by show 2 ≤ sizeLine; decide, fun g2 ng2 => ?_⟩
    have kg2 : Same H40 (L2.upd H40 g2 (.tup [V.int 299, V.int 300])) := same_new ng2
    have fg2 : (L2.upd H40 g2 (.tup [V.int 299, V.int 300])) g2 = some (.tup [V.int 299, V.int 300]) := upd_same
    generalize L2.upd H40 g2 (.tup [V.int 299, V.int 300]) = H41 at kg2 fg2 ⊢
    refine ⟨by show 2 ≤ sizeLine; decide, fun D5 nD5 => ?_⟩
    have kD5 : Same H41 (L2.upd H41 D5 (.lst [V.ref g1, .ref g2])) := same_new nD5
    have fD5 : (L2.upd H41 D5 (.lst [V.ref g1, .ref g2])) D5 = some (.lst [V.ref g1, .ref g2]) := upd_same
    generalize L2.upd H41 D5 (.lst [V.ref g1, .ref g2]) = H42 at kD5 fD5 ⊢
    have k42 := kg1.trans (kg2.trans kD5)
    have shF : Shows (.list (tDs [[1, 1], [299, 300]])) := (Small.list (SmallAll.cons (Small.tuple (SmallAll.ints [1, 1] (n := 0) (by decide))) (SmallAll.cons (Small.tuple (SmallAll.ints [299, 300] (n := 0) (by decide))) (SmallAll.nil (b := 0))))).shows (by decide) (by decide)
    have due : TpAll K H42 [V.ref g1, .ref g2] (tDs [[1, 1], [299, 300]]) := .on (.ofInts (ns := [1, 1]) (.of (kD5 _ _ (kg2 _ _ fg1)))) (.on (.ofInts (ns := [299, 300]) (.of (kD5 _ _ fg2))) .no)
    refine ⟨.inl ⟨T4, D5, .list (tDs [[1, 1], [299, 300]]), rfl, .lst (.of (k42 _ _ hT4)) (hls.stay (.of k42)).dp, .lst (.of fD5) due.dp, shF⟩, true, rfl, iteF ?_⟩
    have kF : Same H H42 := kE.trans (kS4.trans (e39.trans k42))
    have hS42 : SqL K H42 a (ns.map V.int) := Same.seq kF hS
    clear kg1 kg2 kD5 k42 fg1 fg2 fD5 due hls hT4 e39 xs38 xs37 hm38 hm37 kS4 fS4 kE hD37
    refine ⟨.ref a, rfl, a, ns, 0, rfl, hS42, fun r => ?_⟩
    refine ⟨by show 1 ≤ sizeLine; decide, fun L1 n1 => ?_⟩
    have hSb : SqL K (upd H42 L1 (.lst [V.int r])) a (ns.map V.int) := (same_new n1).seq hS42
    refine ⟨.ref a, rfl, 1, rfl, 3, rfl, a, ns.map V.int, rfl, hSb, fun L2 n2 => ?_⟩
    obtain ⟨ys, ey, ly⟩ := cut_map ns (some 1) (some 3)
    rw [ey]
    have h1 : (upd (upd H42 L1 (.lst [V.int r])) L2 (.lst (ys.map V.int))) L1 = some (.lst [V.int r]) := by rw [upd_ne (ne_of_none upd_same n2)]; exact upd_same
    refine ⟨L1, L2, [V.int r], ys.map V.int, rfl, rfl, h1, upd_same, Nat.le_of_lt (small1000 (by rw [List.length_map, List.length_singleton]; omega)), fun L n => ?_⟩
    have eL : [V.int r] ++ ys.map V.int = (r :: ys).map V.int := rfl
    rw [eL]
    have hL0 : (upd (upd (upd H42 L1 (.lst [V.int r])) L2 (.lst (ys.map V.int))) L (.lst ((r :: ys).map V.int))) L = some (.lst ((r :: ys).map V.int)) := upd_same
    generalize upd (upd (upd H42 L1 (.lst [V.int r])) L2 (.lst (ys.map V.int))) L (.lst ((r :: ys).map V.int)) = H0 at hL0 ⊢
    generalize r :: ys = cs at hL0 ⊢
    refine ⟨L, rfl, ⟨_, .of hL0⟩, ?_⟩
    refine for_list (xs := cs.map V.int) (fun i σ H' => ∃ v1 v2 v3 v4 v5 v6 v7 v8 v9, σ = [some (.ref a), v1, v2, v3, v4, v5, v6, v7, v8, v9] ∧ H' L = some (.lst (cs.map V.int)))
      ⟨_, _, _, _, _, _, _, _, _, rfl, hL0⟩ (fun i σ H' _ h => ?_) ?_ ?_
    · obtain ⟨_, _, _, _, _, _, _, _, _, _, h⟩ := h
      exact .of h
    · rintro i x σ H1 hx ⟨v1, v2, v3, v4, v5, v6, v7, v8, v9, rfl, hL1⟩
      rw [List.getElem?_map] at hx
      obtain ⟨z, hz, rfl⟩ := Option.map_eq_some_iff.mp hx
      refine ⟨.int z, rfl, z, rfl, fun H2 p np s2 hp => ?_⟩
      have nLp : L ≠ p := ne_of_none hL1 np
      have hL2 := s2 _ _ hL1
      refine ⟨24, rfl, by decide, by decide, ?_⟩
      refine for_range (lo := 0) (n := (24 : Int).toNat) (fun i σ H' => ∃ v1 v2 v3 v4 v5 v6 v8 v9, σ = [some (.ref a), v1, v2, v3, v4, v5, v6, some (.ref p), v8, v9] ∧ H' L = some (.lst (cs.map V.int)) ∧ PenAt H' p)
        ⟨_, _, _, _, _, _, _, _, rfl, hL2, hp⟩ ?_ ?_
      · rintro j σ H3 hj ⟨v1, v2, v3, v4, v5, v6, v8, v9, rfl, hL3, hp3⟩
        refine ⟨.int (0 + j), rfl, 0 + j, 4, rfl, rfl, by show (0 : Int) < 4; decide, ?_⟩
        refine ⟨_, _, rfl, rfl, _, rfl, ?_⟩
        refine ite_Q (fun v H' => ∃ t ws, v = .ref t ∧ PenAt H' p ∧ H' L = some (.lst (cs.map V.int)) ∧ Tp K H' (.ref t) (.tuple (tDs ws)) ∧ GoodL ws) (fun Q' q' => ?_) (fun Q' q' => ?_) (fun v H4 h => ?_)
        · exact ⟨.ref p, rfl, p, rfl, hp3, fun H4 t ws p4 b4' nt hT gw => q' _ _ ⟨t, ws, rfl, p4, b4' _ _ nLp hL3, hT, gw⟩⟩
        · refine ⟨.ref p, rfl, p, 40, 3, rfl, hp3, by decide, by decide, by decide, by decide, fun H4 t x p4 b4' nt ht wx _ _ => ?_⟩
          refine ⟨by show 1 ≤ sizeLine; decide, fun W nW => q' _ _ ⟨W, [x], rfl, p4.new nW, ?_, ?_, ?_⟩⟩
          · exact same_new nW _ _ (b4' _ _ nLp hL3)
          · exact .tu (.of upd_same) (.on (.ofInts (.of (same_new nW _ _ ht))) .no)
          · exact ⟨Nat.le_refl _, by show 1 ≤ 3; decide, fun w hw => by rw [List.mem_singleton.mp hw]; exact wx⟩
        obtain ⟨t, ws, rfl, p4, hL4, hT4, gw⟩ := h
        have g1w := gw.least
        have g2w := gw.few
        obtain ⟨_, xw, ew, hS4, hTW⟩ := id hT4.toTup
        cases ew
        have lxw := hTW.len
        rw [List.length_map] at lxw
        refine ⟨.ref t, rfl, .ref p, rfl, .ref t, rfl, t, xw, rfl, .inr hS4, ?_⟩
        refine ⟨p, ws.length, 12, by rw [lxw]; rfl, p4, g1w, g2w, by decide, by decide, fun H5 u lp p5 b5' nu hu gl l100 => ?_⟩
        have st5 := St.pen (K := K) b5' p4
        refine ⟨.ref p, rfl, .ref t, rfl, t, xw, rfl, .inr (st5.tu _ _ hS4), ?_⟩
        refine ⟨p, ws.length, by rw [lxw]; rfl, p5, g1w, g2w, fun H6 v wt p6 b6' nv hv gwt => ?_⟩
        have st6 := St.pen (K := K) b6' p5
        refine ⟨t, u, v, ws, lp, wt, rfl, (hT4.stay st5).stay st6, gw, st6.tu _ _ hu, gl, l100, hv, gwt, fun H7 e7 => ⟨true, rfl, iteF ?_⟩⟩
        exact ⟨_, _, _, _, _, _, _, _, rfl, e7 _ _ (b6' _ _ nLp (b5' _ _ nLp hL4)), p6.same e7⟩
      · rintro σ H3 ⟨v1, v2, v3, v4, v5, v6, v8, v9, rfl, hL3, hp3⟩
        exact ⟨_, _, _, _, _, _, _, _, _, rfl, hL3⟩
    · rintro σ H3 _
      exact q H3
end
end Sg

set_option Elab.async false
set_option linter.all false
set_option maxRecDepth 100000
set_option maxHeartbeats 4000000
namespace Sg
open PySem PySem.Spec PyProof.Rows L2 StX
theorem all_mk {l : PySem.W.OpenLaw} {w : World} {K : PySem.W.Frag} {h : Heap} {mg : Str → Option Value} {fa C fd0 fd1 fd2 fd3 fd4 fd5 fd6 fd7 fd8 fd9 fd10 fd11 fd12 fd13 fd14 fd15 fd16 fd17 fd18 fd19 fd20 fd21 fd22 fd23 fd24 fd25 fd26 fd27 fd28 fd29 fd30 fd31 fd32 fd33 fm0 fm1 fm2 fm3 fm4 fm5 fm6 fm7 fm8 fp0 pp0 : Addr} {fo ro : Option Value} {tuN tuS tuM tuW tuP tuQ : Tok} {rsp0 : List Value} {odd0 and0 odd1 and1 odd2 and2 odd3 and3 odd4 and4 odd5 and5 odd6 and6 odd7 and7 odd8 and8 odd9 and9 odd10 and10 odd11 and11 odd12 and12 odd13 and13 odd14 and14 odd15 and15 odd16 and16 odd17 and17 odd18 and18 odd19 and19 odd20 and20 odd21 and21 odd22 and22 odd23 and23 odd24 and24 odd25 and25 odd26 and26 odd27 and27 odd28 and28 odd29 and29 odd30 and30 odd31 and31 odd32 and32 odd33 and33 odm0 anm0 odm1 anm1 odm2 anm2 odm3 anm3 odm4 anm4 odm5 anm5 odm6 anm6 odm7 anm7 odm8 anm8 odp0 anp0 : Option Addr} {sld0 sld1 sld2 sld3 sld4 sld5 sld6 sld7 sld8 sld9 sld10 sld11 sld12 sld13 sld14 sld15 sld16 sld17 sld18 sld19 sld20 sld21 sld22 sld23 sld24 sld25 sld26 sld27 sld28 sld29 sld30 sld31 sld32 sld33 slm0 slm1 slm2 slm3 slm4 slm5 slm6 slm7 slm8 slp0 : Array (Option Value)} {ocd0 kVd0 dcd0 pmd0 cdd0 ctd0 ocd1 kVd1 dcd1 pmd1 cdd1 ctd1 ocd2 kVd2 dcd2 pmd2 cdd2 ctd2 ocd3 kVd3 dcd3 pmd3 cdd3 ctd3 ocd4 kVd4 dcd4 pmd4 cdd4 ctd4 ocd5 kVd5 dcd5 pmd5 cdd5 ctd5 ocd6 kVd6 dcd6 pmd6 cdd6 ctd6 ocd7 kVd7 dcd7 pmd7 cdd7 ctd7 ocd8 kVd8 dcd8 pmd8 cdd8 ctd8 ocd9 kVd9 dcd9 pmd9 cdd9 ctd9 ocd10 kVd10 dcd10 pmd10 cdd10 ctd10 ocd11 kVd11 dcd11 pmd11 cdd11 ctd11 ocd12 kVd12 dcd12 pmd12 cdd12 ctd12 ocd13 kVd13 dcd13 pmd13 cdd13 ctd13 ocd14 kVd14 dcd14 pmd14 cdd14 ctd14 ocd15 kVd15 dcd15 pmd15 cdd15 ctd15 ocd16 kVd16 dcd16 pmd16 cdd16 ctd16 ocd17 kVd17 dcd17 pmd17 cdd17 ctd17 ocd18 kVd18 dcd18 pmd18 cdd18 ctd18 ocd19 kVd19 dcd19 pmd19 cdd19 ctd19 ocd20 kVd20 dcd20 pmd20 cdd20 ctd20 ocd21 kVd21 dcd21 pmd21 cdd21 ctd21 ocd22 kVd22 dcd22 pmd22 cdd22 ctd22 ocd23 kVd23 dcd23 pmd23 cdd23 ctd23 ocd24 kVd24 dcd24 pmd24 cdd24 ctd24 ocd25 kVd25 dcd25 pmd25 cdd25 ctd25 ocd26 kVd26 dcd26 pmd26 cdd26 ctd26 ocd27 kVd27 dcd27 pmd27 cdd27 ctd27 ocd28 kVd28 dcd28 pmd28 cdd28 ctd28 ocd29 kVd29 dcd29 pmd29 cdd29 ctd29 ocd30 kVd30 dcd30 pmd30 cdd30 ctd30 ocd31 kVd31 dcd31 pmd31 cdd31 ctd31 ocd32 kVd32 dcd32 pmd32 cdd32 ctd32 ocd33 kVd33 dcd33 pmd33 cdd33 ctd33 ocm0 kVm0 dcm0 pmm0 cdm0 ctm0 ocm1 kVm1 dcm1 pmm1 cdm1 ctm1 ocm2 kVm2 dcm2 pmm2 cdm2 ctm2 ocm3 kVm3 dcm3 pmm3 cdm3 ctm3 ocm4 kVm4 dcm4 pmm4 cdm4 ctm4 ocm5 kVm5 dcm5 pmm5 cdm5 ctm5 ocm6 kVm6 dcm6 pmm6 cdm6 ctm6 ocm7 kVm7 dcm7 pmm7 cdm7 ctm7 ocm8 kVm8 dcm8 pmm8 cdm8 ctm8 ocp0 kVp0 dcp0 pmp0 cdp0 ctp0 : Value} (X : K.In h) (G : h.Ns mainGlobals mg) (hfa : mg "law" = some (.ref fa))
    (ad0 : PySem.W.nsIn K mainGlobals "is_int" = some (some (.ref fd0)))
    (ld0 : K.lookup fd0 = some ⟨ocd0, odd0, .func (PySem.W.fnOf "is_int" "is_int" (defArgs s_is_int) (defBody s_is_int) (defScope s_is_int) .none kVd0 dcd0 pmd0 and0 cdd0 ctd0), sld0⟩)
    (cd0 : PySem.W.codeIn K cdd0 "is_int" = true)
    (kd0 : PySem.W.keepIn K (.ref fd0) = true)
    (ad1 : PySem.W.nsIn K mainGlobals "is_between" = some (some (.ref fd1)))
    (ld1 : K.lookup fd1 = some ⟨ocd1, odd1, .func (PySem.W.fnOf "is_between" "is_between" (defArgs s_is_between) (defBody s_is_between) (defScope s_is_between) .none kVd1 dcd1 pmd1 and1 cdd1 ctd1), sld1⟩)
    (cd1 : PySem.W.codeIn K cdd1 "is_between" = true)
    (kd1 : PySem.W.keepIn K (.ref fd1) = true)
    (ad2 : PySem.W.nsIn K mainGlobals "is_work" = some (some (.ref fd2)))
    (ld2 : K.lookup fd2 = some ⟨ocd2, odd2, .func (PySem.W.fnOf "is_work" "is_work" (defArgs s_is_work) (defBody s_is_work) (defScope s_is_work) .none kVd2 dcd2 pmd2 and2 cdd2 ctd2), sld2⟩)
    (cd2 : PySem.W.codeIn K cdd2 "is_work" = true)
    (kd2 : PySem.W.keepIn K (.ref fd2) = true)
    (ad3 : PySem.W.nsIn K mainGlobals "bars" = some (some (.ref fd3)))
    (ld3 : K.lookup fd3 = some ⟨ocd3, odd3, .func (PySem.W.fnOf "bars" "bars" (defArgs s_bars) (defBody s_bars) (defScope s_bars) .none kVd3 dcd3 pmd3 and3 cdd3 ctd3), sld3⟩)
    (cd3 : PySem.W.codeIn K cdd3 "bars" = true)
    (kd3 : PySem.W.keepIn K (.ref fd3) = true)
    (ad4 : PySem.W.nsIn K mainGlobals "require_work" = some (some (.ref fd4)))
    (ld4 : K.lookup fd4 = some ⟨ocd4, odd4, .func (PySem.W.fnOf "require_work" "require_work" (defArgs s_require_work) (defBody s_require_work) (defScope s_require_work) .none kVd4 dcd4 pmd4 and4 cdd4 ctd4), sld4⟩)
    (cd4 : PySem.W.codeIn K cdd4 "require_work" = true)
    (kd4 : PySem.W.keepIn K (.ref fd4) = true)
    (ad5 : PySem.W.nsIn K mainGlobals "_clashes_behind" = some (some (.ref fd5)))
    (ld5 : K.lookup fd5 = some ⟨ocd5, odd5, .func (PySem.W.fnOf "_clashes_behind" "_clashes_behind" (defArgs s_clashes_behind) (defBody s_clashes_behind) (defScope s_clashes_behind) .none kVd5 dcd5 pmd5 and5 cdd5 ctd5), sld5⟩)
    (cd5 : PySem.W.codeIn K cdd5 "_clashes_behind" = true)
    (kd5 : PySem.W.keepIn K (.ref fd5) = true)
    (ad6 : PySem.W.nsIn K mainGlobals "is_kind" = some (some (.ref fd6)))
    (ld6 : K.lookup fd6 = some ⟨ocd6, odd6, .func (PySem.W.fnOf "is_kind" "is_kind" (defArgs s_is_kind) (defBody s_is_kind) (defScope s_is_kind) .none kVd6 dcd6 pmd6 and6 cdd6 ctd6), sld6⟩)
    (cd6 : PySem.W.codeIn K cdd6 "is_kind" = true)
    (kd6 : PySem.W.keepIn K (.ref fd6) = true)
    (ad7 : PySem.W.nsIn K mainGlobals "require_kind" = some (some (.ref fd7)))
    (ld7 : K.lookup fd7 = some ⟨ocd7, odd7, .func (PySem.W.fnOf "require_kind" "require_kind" (defArgs s_require_kind) (defBody s_require_kind) (defScope s_require_kind) .none kVd7 dcd7 pmd7 and7 cdd7 ctd7), sld7⟩)
    (cd7 : PySem.W.codeIn K cdd7 "require_kind" = true)
    (kd7 : PySem.W.keepIn K (.ref fd7) = true)
    (ad8 : PySem.W.nsIn K mainGlobals "_bars_of_all" = some (some (.ref fd8)))
    (ld8 : K.lookup fd8 = some ⟨ocd8, odd8, .func (PySem.W.fnOf "_bars_of_all" "_bars_of_all" (defArgs s_bars_of_all) (defBody s_bars_of_all) (defScope s_bars_of_all) .none kVd8 dcd8 pmd8 and8 cdd8 ctd8), sld8⟩)
    (cd8 : PySem.W.codeIn K cdd8 "_bars_of_all" = true)
    (kd8 : PySem.W.keepIn K (.ref fd8) = true)
    (ad9 : PySem.W.nsIn K mainGlobals "require_line" = some (some (.ref fd9)))
    (ld9 : K.lookup fd9 = some ⟨ocd9, odd9, .func (PySem.W.fnOf "require_line" "require_line" (defArgs s_require_line) (defBody s_require_line) (defScope s_require_line) .none kVd9 dcd9 pmd9 and9 cdd9 ctd9), sld9⟩)
    (cd9 : PySem.W.codeIn K cdd9 "require_line" = true)
    (kd9 : PySem.W.keepIn K (.ref fd9) = true)
    (ad10 : PySem.W.nsIn K mainGlobals "fraction" = some (some (.ref fd10)))
    (ld10 : K.lookup fd10 = some ⟨ocd10, odd10, .func (PySem.W.fnOf "fraction" "fraction" (defArgs s_fraction) (defBody s_fraction) (defScope s_fraction) .none kVd10 dcd10 pmd10 and10 cdd10 ctd10), sld10⟩)
    (cd10 : PySem.W.codeIn K cdd10 "fraction" = true)
    (kd10 : PySem.W.keepIn K (.ref fd10) = true)
    (ad11 : PySem.W.nsIn K mainGlobals "fits" = some (some (.ref fd11)))
    (ld11 : K.lookup fd11 = some ⟨ocd11, odd11, .func (PySem.W.fnOf "fits" "fits" (defArgs s_fits) (defBody s_fits) (defScope s_fits) .none kVd11 dcd11 pmd11 and11 cdd11 ctd11), sld11⟩)
    (cd11 : PySem.W.codeIn K cdd11 "fits" = true)
    (kd11 : PySem.W.keepIn K (.ref fd11) = true)
    (ad12 : PySem.W.nsIn K mainGlobals "mean" = some (some (.ref fd12)))
    (ld12 : K.lookup fd12 = some ⟨ocd12, odd12, .func (PySem.W.fnOf "mean" "mean" (defArgs s_mean) (defBody s_mean) (defScope s_mean) .none kVd12 dcd12 pmd12 and12 cdd12 ctd12), sld12⟩)
    (cd12 : PySem.W.codeIn K cdd12 "mean" = true)
    (kd12 : PySem.W.keepIn K (.ref fd12) = true)
    (ad13 : PySem.W.nsIn K mainGlobals "is_lap" = some (some (.ref fd13)))
    (ld13 : K.lookup fd13 = some ⟨ocd13, odd13, .func (PySem.W.fnOf "is_lap" "is_lap" (defArgs s_is_lap) (defBody s_is_lap) (defScope s_is_lap) .none kVd13 dcd13 pmd13 and13 cdd13 ctd13), sld13⟩)
    (cd13 : PySem.W.codeIn K cdd13 "is_lap" = true)
    (kd13 : PySem.W.keepIn K (.ref fd13) = true)
    (ad14 : PySem.W.nsIn K mainGlobals "worth_of" = some (some (.ref fd14)))
    (ld14 : K.lookup fd14 = some ⟨ocd14, odd14, .func (PySem.W.fnOf "worth_of" "worth_of" (defArgs s_worth_of) (defBody s_worth_of) (defScope s_worth_of) .none kVd14 dcd14 pmd14 and14 cdd14 ctd14), sld14⟩)
    (cd14 : PySem.W.codeIn K cdd14 "worth_of" = true)
    (kd14 : PySem.W.keepIn K (.ref fd14) = true)
    (ad15 : PySem.W.nsIn K mainGlobals "require_lap" = some (some (.ref fd15)))
    (ld15 : K.lookup fd15 = some ⟨ocd15, odd15, .func (PySem.W.fnOf "require_lap" "require_lap" (defArgs s_require_lap) (defBody s_require_lap) (defScope s_require_lap) .none kVd15 dcd15 pmd15 and15 cdd15 ctd15), sld15⟩)
    (cd15 : PySem.W.codeIn K cdd15 "require_lap" = true)
    (kd15 : PySem.W.keepIn K (.ref fd15) = true)
    (ad16 : PySem.W.nsIn K mainGlobals "require_worths" = some (some (.ref fd16)))
    (ld16 : K.lookup fd16 = some ⟨ocd16, odd16, .func (PySem.W.fnOf "require_worths" "require_worths" (defArgs s_require_worths) (defBody s_require_worths) (defScope s_require_worths) .none kVd16 dcd16 pmd16 and16 cdd16 ctd16), sld16⟩)
    (cd16 : PySem.W.codeIn K cdd16 "require_worths" = true)
    (kd16 : PySem.W.keepIn K (.ref fd16) = true)
    (ad17 : PySem.W.nsIn K mainGlobals "_is_worths" = some (some (.ref fd17)))
    (ld17 : K.lookup fd17 = some ⟨ocd17, odd17, .func (PySem.W.fnOf "_is_worths" "_is_worths" (defArgs s_is_worths) (defBody s_is_worths) (defScope s_is_worths) .none kVd17 dcd17 pmd17 and17 cdd17 ctd17), sld17⟩)
    (cd17 : PySem.W.codeIn K cdd17 "_is_worths" = true)
    (kd17 : PySem.W.keepIn K (.ref fd17) = true)
    (ad18 : PySem.W.nsIn K mainGlobals "_clashes" = some (some (.ref fd18)))
    (ld18 : K.lookup fd18 = some ⟨ocd18, odd18, .func (PySem.W.fnOf "_clashes" "_clashes" (defArgs s_clashes) (defBody s_clashes) (defScope s_clashes) .none kVd18 dcd18 pmd18 and18 cdd18 ctd18), sld18⟩)
    (cd18 : PySem.W.codeIn K cdd18 "_clashes" = true)
    (kd18 : PySem.W.keepIn K (.ref fd18) = true)
    (ad19 : PySem.W.nsIn K mainGlobals "_law_cell" = some (some (.ref fd19)))
    (ld19 : K.lookup fd19 = some ⟨ocd19, odd19, .func (PySem.W.fnOf "_law_cell" "_law_cell" (defArgs s_l_cell) (defBody s_l_cell) (defScope s_l_cell) .none kVd19 dcd19 pmd19 and19 cdd19 ctd19), sld19⟩)
    (cd19 : PySem.W.codeIn K cdd19 "_law_cell" = true)
    (kd19 : PySem.W.keepIn K (.ref fd19) = true)
    (ad20 : PySem.W.nsIn K mainGlobals "_law_pen" = some (some (.ref fd20)))
    (ld20 : K.lookup fd20 = some ⟨ocd20, odd20, .func (PySem.W.fnOf "_law_pen" "_law_pen" (defArgs s_l_pen) (defBody s_l_pen) (defScope s_l_pen) .none kVd20 dcd20 pmd20 and20 cdd20 ctd20), sld20⟩)
    (cd20 : PySem.W.codeIn K cdd20 "_law_pen" = true)
    (kd20 : PySem.W.keepIn K (.ref fd20) = true)
    (ad21 : PySem.W.nsIn K mainGlobals "_law_draw" = some (some (.ref fd21)))
    (ld21 : K.lookup fd21 = some ⟨ocd21, odd21, .func (PySem.W.fnOf "_law_draw" "_law_draw" (defArgs s_l_draw) (defBody s_l_draw) (defScope s_l_draw) .none kVd21 dcd21 pmd21 and21 cdd21 ctd21), sld21⟩)
    (cd21 : PySem.W.codeIn K cdd21 "_law_draw" = true)
    (kd21 : PySem.W.keepIn K (.ref fd21) = true)
    (ad22 : PySem.W.nsIn K mainGlobals "_law_pick" = some (some (.ref fd22)))
    (ld22 : K.lookup fd22 = some ⟨ocd22, odd22, .func (PySem.W.fnOf "_law_pick" "_law_pick" (defArgs s_l_pick) (defBody s_l_pick) (defScope s_l_pick) .none kVd22 dcd22 pmd22 and22 cdd22 ctd22), sld22⟩)
    (cd22 : PySem.W.codeIn K cdd22 "_law_pick" = true)
    (kd22 : PySem.W.keepIn K (.ref fd22) = true)
    (ad23 : PySem.W.nsIn K mainGlobals "_law_same" = some (some (.ref fd23)))
    (ld23 : K.lookup fd23 = some ⟨ocd23, odd23, .func (PySem.W.fnOf "_law_same" "_law_same" (defArgs s_l_same) (defBody s_l_same) (defScope s_l_same) .none kVd23 dcd23 pmd23 and23 cdd23 ctd23), sld23⟩)
    (cd23 : PySem.W.codeIn K cdd23 "_law_same" = true)
    (kd23 : PySem.W.keepIn K (.ref fd23) = true)
    (ad24 : PySem.W.nsIn K mainGlobals "_law_work" = some (some (.ref fd24)))
    (ld24 : K.lookup fd24 = some ⟨ocd24, odd24, .func (PySem.W.fnOf "_law_work" "_law_work" (defArgs s_l_work) (defBody s_l_work) (defScope s_l_work) .none kVd24 dcd24 pmd24 and24 cdd24 ctd24), sld24⟩)
    (cd24 : PySem.W.codeIn K cdd24 "_law_work" = true)
    (kd24 : PySem.W.keepIn K (.ref fd24) = true)
    (ad25 : PySem.W.nsIn K mainGlobals "_law_made" = some (some (.ref fd25)))
    (ld25 : K.lookup fd25 = some ⟨ocd25, odd25, .func (PySem.W.fnOf "_law_made" "_law_made" (defArgs s_l_made) (defBody s_l_made) (defScope s_l_made) .none kVd25 dcd25 pmd25 and25 cdd25 ctd25), sld25⟩)
    (cd25 : PySem.W.codeIn K cdd25 "_law_made" = true)
    (kd25 : PySem.W.keepIn K (.ref fd25) = true)
    (ad26 : PySem.W.nsIn K mainGlobals "_law_works" = some (some (.ref fd26)))
    (ld26 : K.lookup fd26 = some ⟨ocd26, odd26, .func (PySem.W.fnOf "_law_works" "_law_works" (defArgs s_l_works) (defBody s_l_works) (defScope s_l_works) .none kVd26 dcd26 pmd26 and26 cdd26 ctd26), sld26⟩)
    (cd26 : PySem.W.codeIn K cdd26 "_law_works" = true)
    (kd26 : PySem.W.keepIn K (.ref fd26) = true)
    (ad27 : PySem.W.nsIn K mainGlobals "_law_fits" = some (some (.ref fd27)))
    (ld27 : K.lookup fd27 = some ⟨ocd27, odd27, .func (PySem.W.fnOf "_law_fits" "_law_fits" (defArgs s_l_fits) (defBody s_l_fits) (defScope s_l_fits) .none kVd27 dcd27 pmd27 and27 cdd27 ctd27), sld27⟩)
    (cd27 : PySem.W.codeIn K cdd27 "_law_fits" = true)
    (kd27 : PySem.W.keepIn K (.ref fd27) = true)
    (ad28 : PySem.W.nsIn K mainGlobals "_law_low" = some (some (.ref fd28)))
    (ld28 : K.lookup fd28 = some ⟨ocd28, odd28, .func (PySem.W.fnOf "_law_low" "_law_low" (defArgs s_l_low) (defBody s_l_low) (defScope s_l_low) .none kVd28 dcd28 pmd28 and28 cdd28 ctd28), sld28⟩)
    (cd28 : PySem.W.codeIn K cdd28 "_law_low" = true)
    (kd28 : PySem.W.keepIn K (.ref fd28) = true)
    (ad29 : PySem.W.nsIn K mainGlobals "_law_mean" = some (some (.ref fd29)))
    (ld29 : K.lookup fd29 = some ⟨ocd29, odd29, .func (PySem.W.fnOf "_law_mean" "_law_mean" (defArgs s_l_mean) (defBody s_l_mean) (defScope s_l_mean) .none kVd29 dcd29 pmd29 and29 cdd29 ctd29), sld29⟩)
    (cd29 : PySem.W.codeIn K cdd29 "_law_mean" = true)
    (kd29 : PySem.W.keepIn K (.ref fd29) = true)
    (ad30 : PySem.W.nsIn K mainGlobals "_law_lap" = some (some (.ref fd30)))
    (ld30 : K.lookup fd30 = some ⟨ocd30, odd30, .func (PySem.W.fnOf "_law_lap" "_law_lap" (defArgs s_l_lap) (defBody s_l_lap) (defScope s_l_lap) .none kVd30 dcd30 pmd30 and30 cdd30 ctd30), sld30⟩)
    (cd30 : PySem.W.codeIn K cdd30 "_law_lap" = true)
    (kd30 : PySem.W.keepIn K (.ref fd30) = true)
    (ad31 : PySem.W.nsIn K mainGlobals "_law_worths" = some (some (.ref fd31)))
    (ld31 : K.lookup fd31 = some ⟨ocd31, odd31, .func (PySem.W.fnOf "_law_worths" "_law_worths" (defArgs s_l_worths) (defBody s_l_worths) (defScope s_l_worths) .none kVd31 dcd31 pmd31 and31 cdd31 ctd31), sld31⟩)
    (cd31 : PySem.W.codeIn K cdd31 "_law_worths" = true)
    (kd31 : PySem.W.keepIn K (.ref fd31) = true)
    (ad32 : PySem.W.nsIn K mainGlobals "_law_is_right" = some (some (.ref fd32)))
    (ld32 : K.lookup fd32 = some ⟨ocd32, odd32, .func (PySem.W.fnOf "_law_is_right" "_law_is_right" (defArgs s_l_is_right) (defBody s_l_is_right) (defScope s_l_is_right) .none kVd32 dcd32 pmd32 and32 cdd32 ctd32), sld32⟩)
    (cd32 : PySem.W.codeIn K cdd32 "_law_is_right" = true)
    (kd32 : PySem.W.keepIn K (.ref fd32) = true)
    (ad33 : PySem.W.nsIn K mainGlobals "law" = some (some (.ref fd33)))
    (ld33 : K.lookup fd33 = some ⟨ocd33, odd33, .func (PySem.W.fnOf "law" "law" (defArgs s_law) (defBody s_law) (defScope s_law) .none kVd33 dcd33 pmd33 and33 cdd33 ctd33), sld33⟩)
    (cd33 : PySem.W.codeIn K cdd33 "law" = true)
    (kd33 : PySem.W.keepIn K (.ref fd33) = true)
    (aC : PySem.W.nsIn K mainGlobals "Line" = some (some (.ref C)))
    (am0 : PySem.W.findIn K (.ref C) "__init__" = some (some (.ref fm0)))
    (im0 : PySem.W.isFn K (.ref fm0) = true)
    (lm0 : K.lookup fm0 = some ⟨ocm0, odm0, .func (PySem.W.fnOf "__init__" "Line.__init__" (defArgs s_Line_init) (defBody s_Line_init) (defScope s_Line_init) .none kVm0 dcm0 pmm0 anm0 cdm0 ctm0), slm0⟩)
    (cm0 : PySem.W.codeIn K cdm0 "Line.__init__" = true)
    (km0 : PySem.W.keepIn K (.ref fm0) = true)
    (am1 : PySem.W.findIn K (.ref C) "__len__" = some (some (.ref fm1)))
    (im1 : PySem.W.isFn K (.ref fm1) = true)
    (lm1 : K.lookup fm1 = some ⟨ocm1, odm1, .func (PySem.W.fnOf "__len__" "Line.__len__" (defArgs s_Line_len) (defBody s_Line_len) (defScope s_Line_len) .none kVm1 dcm1 pmm1 anm1 cdm1 ctm1), slm1⟩)
    (cm1 : PySem.W.codeIn K cdm1 "Line.__len__" = true)
    (km1 : PySem.W.keepIn K (.ref fm1) = true)
    (am2 : PySem.W.findIn K (.ref C) "__call__" = some (some (.ref fm2)))
    (im2 : PySem.W.isFn K (.ref fm2) = true)
    (lm2 : K.lookup fm2 = some ⟨ocm2, odm2, .func (PySem.W.fnOf "__call__" "Line.__call__" (defArgs s_Line_call) (defBody s_Line_call) (defScope s_Line_call) .none kVm2 dcm2 pmm2 anm2 cdm2 ctm2), slm2⟩)
    (cm2 : PySem.W.codeIn K cdm2 "Line.__call__" = true)
    (km2 : PySem.W.keepIn K (.ref fm2) = true)
    (am3 : PySem.W.findIn K (.ref C) "__add__" = some (some (.ref fm3)))
    (im3 : PySem.W.isFn K (.ref fm3) = true)
    (lm3 : K.lookup fm3 = some ⟨ocm3, odm3, .func (PySem.W.fnOf "__add__" "Line.__add__" (defArgs s_Line_add) (defBody s_Line_add) (defScope s_Line_add) .none kVm3 dcm3 pmm3 anm3 cdm3 ctm3), slm3⟩)
    (cm3 : PySem.W.codeIn K cdm3 "Line.__add__" = true)
    (km3 : PySem.W.keepIn K (.ref fm3) = true)
    (am4 : PySem.W.findIn K (.ref C) "__sub__" = some (some (.ref fm4)))
    (im4 : PySem.W.isFn K (.ref fm4) = true)
    (lm4 : K.lookup fm4 = some ⟨ocm4, odm4, .func (PySem.W.fnOf "__sub__" "Line.__sub__" (defArgs s_Line_sub) (defBody s_Line_sub) (defScope s_Line_sub) .none kVm4 dcm4 pmm4 anm4 cdm4 ctm4), slm4⟩)
    (cm4 : PySem.W.codeIn K cdm4 "Line.__sub__" = true)
    (km4 : PySem.W.keepIn K (.ref fm4) = true)
    (am5 : PySem.W.findIn K (.ref C) "__neg__" = some (some (.ref fm5)))
    (im5 : PySem.W.isFn K (.ref fm5) = true)
    (lm5 : K.lookup fm5 = some ⟨ocm5, odm5, .func (PySem.W.fnOf "__neg__" "Line.__neg__" (defArgs s_Line_neg) (defBody s_Line_neg) (defScope s_Line_neg) .none kVm5 dcm5 pmm5 anm5 cdm5 ctm5), slm5⟩)
    (cm5 : PySem.W.codeIn K cdm5 "Line.__neg__" = true)
    (km5 : PySem.W.keepIn K (.ref fm5) = true)
    (am6 : PySem.W.findIn K (.ref C) "__eq__" = some (some (.ref fm6)))
    (im6 : PySem.W.isFn K (.ref fm6) = true)
    (lm6 : K.lookup fm6 = some ⟨ocm6, odm6, .func (PySem.W.fnOf "__eq__" "Line.__eq__" (defArgs s_Line_eq) (defBody s_Line_eq) (defScope s_Line_eq) .none kVm6 dcm6 pmm6 anm6 cdm6 ctm6), slm6⟩)
    (cm6 : PySem.W.codeIn K cdm6 "Line.__eq__" = true)
    (km6 : PySem.W.keepIn K (.ref fm6) = true)
    (am7 : PySem.W.findIn K (.ref C) "__getitem__" = some (some (.ref fm7)))
    (im7 : PySem.W.isFn K (.ref fm7) = true)
    (lm7 : K.lookup fm7 = some ⟨ocm7, odm7, .func (PySem.W.fnOf "__getitem__" "Line.__getitem__" (defArgs s_Line_getitem) (defBody s_Line_getitem) (defScope s_Line_getitem) .none kVm7 dcm7 pmm7 anm7 cdm7 ctm7), slm7⟩)
    (cm7 : PySem.W.codeIn K cdm7 "Line.__getitem__" = true)
    (km7 : PySem.W.keepIn K (.ref fm7) = true)
    (am8 : PySem.W.findIn K (.ref C) "__repr__" = some (some (.ref fm8)))
    (im8 : PySem.W.isFn K (.ref fm8) = true)
    (lm8 : K.lookup fm8 = some ⟨ocm8, odm8, .func (PySem.W.fnOf "__repr__" "Line.__repr__" (defArgs s_Line_repr) (defBody s_Line_repr) (defScope s_Line_repr) .none kVm8 dcm8 pmm8 anm8 cdm8 ctm8), slm8⟩)
    (cm8 : PySem.W.codeIn K cdm8 "Line.__repr__" = true)
    (km8 : PySem.W.keepIn K (.ref fm8) = true)
    (ap0 : PySem.W.findIn K (.ref C) "works" = some (some (.ref pp0)))
    (gp0 : PySem.W.specialIn K (.ref pp0) "__get__" = some (some (.builtin "property.__get__")))
    (tp0 : PySem.W.takesIn K (.ref pp0) = some true)
    (rp0 : PySem.W.recIn K pp0 "property" = some (.ref fp0 :: rsp0))
    (lp0 : K.lookup fp0 = some ⟨ocp0, odp0, .func (PySem.W.fnOf "works" "Line.works" (defArgs s_Line_works) (defBody s_Line_works) (defScope s_Line_works) .none kVp0 dcp0 pmp0 anp0 cdp0 ctp0), slp0⟩)
    (cp0 : PySem.W.codeIn K cdp0 "Line.works" = true)
    (kp0 : PySem.W.keepIn K (.ref fp0) = true)
    (pg : PySem.W.plainGet K C Str.empty = true)
    (hd : PySem.W.hasDictIn K C = true)
    (po : PySem.W.plainOver K C = true)
    (sa : PySem.W.findIn K (.ref C) "__setattr__" = some (some (.builtin "object.__setattr__")))
    (mk : PySem.W.makesIn K C = true)
    (kc : PySem.W.keepIn K (.ref C) = true)
    (nW : PySem.W.findIn K (.ref C) "_works" = some none)
    (nB : PySem.W.findIn K (.ref C) "_bars" = some none)
    (nR : PySem.W.findIn K (.ref C) "_reach" = some none)
    (ha : PySem.W.findIn K (.ref C) "__class__" = some (some (.builtin "object.__class__")))
    (hn : PySem.W.specialIn K (.builtin "object.__class__") "__get__" = some (some (.builtin "getset_descriptor.__get__")))
    (ht : PySem.W.takesIn K (.builtin "object.__class__") = some true)
    (hm : PySem.W.mroIn K C (.type "object") = some true)
    (sf : PySem.W.selfFirst K C = true)
    (rs : PySem.W.findIn K (.ref C) "__rsub__" = some none)
    (is1 : PySem.W.findIn K (.type "int") "__sub__" = some fo)
    (ir1 : PySem.W.findIn K (.type "int") "__rsub__" = some ro)
    (nsub : PySem.W.subIn K (.type "int") (.ref C) = some false)
    (ne : PySem.W.findIn K (.ref C) "__ne__" = some (some (.builtin "object.__ne__")))
    (ob : PySem.W.subIn K (.ref C) (.type "object") = some true)
    (fi : PySem.W.fnIn K fm2 = true)
    (fg : PySem.W.fnIn K fm7 = true)
    (z_isinstance : PySem.W.nsIn K mainGlobals "isinstance" = some none)
    (z_int : PySem.W.nsIn K mainGlobals "int" = some none)
    (z_bool : PySem.W.nsIn K mainGlobals "bool" = some none)
    (z_tuple : PySem.W.nsIn K mainGlobals "tuple" = some none)
    (z_len : PySem.W.nsIn K mainGlobals "len" = some none)
    (z_all : PySem.W.nsIn K mainGlobals "all" = some none)
    (z_any : PySem.W.nsIn K mainGlobals "any" = some none)
    (z_zip : PySem.W.nsIn K mainGlobals "zip" = some none)
    (z_range : PySem.W.nsIn K mainGlobals "range" = some none)
    (z_max : PySem.W.nsIn K mainGlobals "max" = some none)
    (z_sum : PySem.W.nsIn K mainGlobals "sum" = some none)
    (z_repr : PySem.W.nsIn K mainGlobals "repr" = some none)
    (z_enumerate : PySem.W.nsIn K mainGlobals "enumerate" = some none)
    (uN : PySem.W.nsIn K mainGlobals "NOWHERE" = some (some (.int (-1) tuN)))
    (uS : PySem.W.nsIn K mainGlobals "STATIONS" = some (some (.int (10) tuS)))
    (uM : PySem.W.nsIn K mainGlobals "MOST_ITEMS" = some (some (.int (60) tuM)))
    (uW : PySem.W.nsIn K mainGlobals "MOST_WORKS" = some (some (.int (3) tuW)))
    (uP : PySem.W.nsIn K mainGlobals "NOTHING" = some (some (.int (-1) tuP)))
    (uQ : PySem.W.nsIn K mainGlobals "MOST_WORTH" = some (some (.int (20) tuQ)))
    (ug : PySem.W.nsIn K mainGlobals "gcd" = some (some (.builtin "math.gcd"))) :
    ∃ fd : FuncData, (∀ (s : Shared) (v : Value), BindsTo s fd ⟨[v], []⟩ [("_law_script", v)]) ∧ ∀ base : Heap, K.In base → base.Ns mainGlobals mg → FnG l.prog w K mg base 17 fa fd ["_law_script"] (spLaw K) := by
  have e := hfa.symm.trans (PySem.W.mg_of X G ad33)
  cases e
  have y_isinstance := PySem.W.mg_none_of X G z_isinstance
  have y_int := PySem.W.mg_none_of X G z_int
  have y_bool := PySem.W.mg_none_of X G z_bool
  have y_tuple := PySem.W.mg_none_of X G z_tuple
  have y_len := PySem.W.mg_none_of X G z_len
  have y_all := PySem.W.mg_none_of X G z_all
  have y_any := PySem.W.mg_none_of X G z_any
  have y_zip := PySem.W.mg_none_of X G z_zip
  have y_range := PySem.W.mg_none_of X G z_range
  have y_max := PySem.W.mg_none_of X G z_max
  have y_sum := PySem.W.mg_none_of X G z_sum
  have y_repr := PySem.W.mg_none_of X G z_repr
  have y_enumerate := PySem.W.mg_none_of X G z_enumerate
  have Fd0 := fun_mk (st := s_is_int) ld0 cd0 kd0
  have bd0 := Fd0.binds (ps := ["thing"]) fun _ _ _ _ _ _ us hl => match us, hl with | [_], _ => rfl
  have vd0 := PySem.W.mg_of X G ad0
  have Fd1 := fun_mk (st := s_is_between) ld1 cd1 kd1
  have bd1 := Fd1.binds (ps := ["thing", "least", "most"]) fun _ _ _ _ _ _ us hl => match us, hl with | [_, _, _], _ => rfl
  have vd1 := PySem.W.mg_of X G ad1
  have Fd2 := fun_mk (st := s_is_work) ld2 cd2 kd2
  have bd2 := Fd2.binds (ps := ["thing"]) fun _ _ _ _ _ _ us hl => match us, hl with | [_], _ => rfl
  have vd2 := PySem.W.mg_of X G ad2
  have Fd3 := fun_mk (st := s_bars) ld3 cd3 kd3
  have bd3 := Fd3.binds (ps := ["one", "other"]) fun _ _ _ _ _ _ us hl => match us, hl with | [_, _], _ => rfl
  have vd3 := PySem.W.mg_of X G ad3
  have Fd4 := fun_mk (st := s_require_work) ld4 cd4 kd4
  have bd4 := Fd4.binds (ps := ["thing"]) fun _ _ _ _ _ _ us hl => match us, hl with | [_], _ => rfl
  have vd4 := PySem.W.mg_of X G ad4
  have Fd5 := fun_mk (st := s_clashes_behind) ld5 cd5 kd5
  have bd5 := Fd5.binds (ps := ["one", "other", "distance"]) fun _ _ _ _ _ _ us hl => match us, hl with | [_, _, _], _ => rfl
  have vd5 := PySem.W.mg_of X G ad5
  have Fd6 := fun_mk (st := s_is_kind) ld6 cd6 kd6
  have bd6 := Fd6.binds (ps := ["line", "thing"]) fun _ _ _ _ _ _ us hl => match us, hl with | [_, _], _ => rfl
  have vd6 := PySem.W.mg_of X G ad6
  have Fd7 := fun_mk (st := s_require_kind) ld7 cd7 kd7
  have bd7 := Fd7.binds (ps := ["line", "thing"]) fun _ _ _ _ _ _ us hl => match us, hl with | [_, _], _ => rfl
  have vd7 := PySem.W.mg_of X G ad7
  have Fd8 := fun_mk (st := s_bars_of_all) ld8 cd8 kd8
  have bd8 := Fd8.binds (ps := ["works"]) fun _ _ _ _ _ _ us hl => match us, hl with | [_], _ => rfl
  have vd8 := PySem.W.mg_of X G ad8
  have Fd9 := fun_mk (st := s_require_line) ld9 cd9 kd9
  have bd9 := Fd9.binds (ps := ["thing"]) fun _ _ _ _ _ _ us hl => match us, hl with | [_], _ => rfl
  have vd9 := PySem.W.mg_of X G ad9
  have Fd10 := fun_mk (st := s_fraction) ld10 cd10 kd10
  have bd10 := Fd10.binds (ps := ["top", "bottom"]) fun _ _ _ _ _ _ us hl => match us, hl with | [_, _], _ => rfl
  have vd10 := PySem.W.mg_of X G ad10
  have Fd11 := fun_mk (st := s_fits) ld11 cd11 kd11
  have bd11 := Fd11.binds (ps := ["line", "lap"]) fun _ _ _ _ _ _ us hl => match us, hl with | [_, _], _ => rfl
  have vd11 := PySem.W.mg_of X G ad11
  have Fd12 := fun_mk (st := s_mean) ld12 cd12 kd12
  have bd12 := Fd12.binds (ps := ["line", "lap", "worths"]) fun _ _ _ _ _ _ us hl => match us, hl with | [_, _, _], _ => rfl
  have vd12 := PySem.W.mg_of X G ad12
  have Fd13 := fun_mk (st := s_is_lap) ld13 cd13 kd13
  have bd13 := Fd13.binds (ps := ["line", "thing"]) fun _ _ _ _ _ _ us hl => match us, hl with | [_, _], _ => rfl
  have vd13 := PySem.W.mg_of X G ad13
  have Fd14 := fun_mk (st := s_worth_of) ld14 cd14 kd14
  have bd14 := Fd14.binds (ps := ["worths", "choice"]) fun _ _ _ _ _ _ us hl => match us, hl with | [_, _], _ => rfl
  have vd14 := PySem.W.mg_of X G ad14
  have Fd15 := fun_mk (st := s_require_lap) ld15 cd15 kd15
  have bd15 := Fd15.binds (ps := ["line", "thing"]) fun _ _ _ _ _ _ us hl => match us, hl with | [_, _], _ => rfl
  have vd15 := PySem.W.mg_of X G ad15
  have Fd16 := fun_mk (st := s_require_worths) ld16 cd16 kd16
  have bd16 := Fd16.binds (ps := ["line", "thing"]) fun _ _ _ _ _ _ us hl => match us, hl with | [_, _], _ => rfl
  have vd16 := PySem.W.mg_of X G ad16
  have Fd17 := fun_mk (st := s_is_worths) ld17 cd17 kd17
  have bd17 := Fd17.binds (ps := ["line", "thing"]) fun _ _ _ _ _ _ us hl => match us, hl with | [_, _], _ => rfl
  have vd17 := PySem.W.mg_of X G ad17
  have Fd18 := fun_mk (st := s_clashes) ld18 cd18 kd18
  have bd18 := Fd18.binds (ps := ["line", "lap", "tick"]) fun _ _ _ _ _ _ us hl => match us, hl with | [_, _, _], _ => rfl
  have vd18 := PySem.W.mg_of X G ad18
  have Fd19 := fun_mk (st := s_l_cell) ld19 cd19 kd19
  have bd19 := Fd19.binds (ps := ["_law_script", "_law_k"]) fun _ _ _ _ _ _ us hl => match us, hl with | [_, _], _ => rfl
  have vd19 := PySem.W.mg_of X G ad19
  have Fd20 := fun_mk (st := s_l_pen) ld20 cd20 kd20
  have bd20 := Fd20.binds (ps := ["_law_cell_here"]) fun _ _ _ _ _ _ us hl => match us, hl with | [_], _ => rfl
  have vd20 := PySem.W.mg_of X G ad20
  have Fd21 := fun_mk (st := s_l_draw) ld21 cd21 kd21
  have bd21 := Fd21.binds (ps := ["_law_pen_here", "_law_many"]) fun _ _ _ _ _ _ us hl => match us, hl with | [_, _], _ => rfl
  have vd21 := PySem.W.mg_of X G ad21
  have Fd22 := fun_mk (st := s_l_pick) ld22 cd22 kd22
  have bd22 := Fd22.binds (ps := ["_law_pen_here", "_law_some"]) fun _ _ _ _ _ _ us hl => match us, hl with | [_, _], _ => rfl
  have vd22 := PySem.W.mg_of X G ad22
  have Fd23 := fun_mk (st := s_l_same) ld23 cd23 kd23
  have bd23 := Fd23.binds (ps := ["_law_found", "_law_due"]) fun _ _ _ _ _ _ us hl => match us, hl with | [_, _], _ => rfl
  have vd23 := PySem.W.mg_of X G ad23
  have Fd24 := fun_mk (st := s_l_work) ld24 cd24 kd24
  have bd24 := Fd24.binds (ps := ["_law_pen_here", "_law_most", "_law_stations"]) fun _ _ _ _ _ _ us hl => match us, hl with | [_, _, _], _ => rfl
  have vd24 := PySem.W.mg_of X G ad24
  have Fd25 := fun_mk (st := s_l_made) ld25 cd25 kd25
  have bd25 := Fd25.binds (ps := ["_law_works_here"]) fun _ _ _ _ _ _ us hl => match us, hl with | [_], _ => rfl
  have vd25 := PySem.W.mg_of X G ad25
  have Fd26 := fun_mk (st := s_l_works) ld26 cd26 kd26
  have bd26 := Fd26.binds (ps := ["_law_pen_here"]) fun _ _ _ _ _ _ us hl => match us, hl with | [_], _ => rfl
  have vd26 := PySem.W.mg_of X G ad26
  have Fd27 := fun_mk (st := s_l_fits) ld27 cd27 kd27
  have bd27 := Fd27.binds (ps := ["_law_works_here", "_law_lap_here"]) fun _ _ _ _ _ _ us hl => match us, hl with | [_, _], _ => rfl
  have vd27 := PySem.W.mg_of X G ad27
  have Fd28 := fun_mk (st := s_l_low) ld28 cd28 kd28
  have bd28 := Fd28.binds (ps := ["_law_top", "_law_bottom"]) fun _ _ _ _ _ _ us hl => match us, hl with | [_, _], _ => rfl
  have vd28 := PySem.W.mg_of X G ad28
  have Fd29 := fun_mk (st := s_l_mean) ld29 cd29 kd29
  have bd29 := Fd29.binds (ps := ["_law_lap_here", "_law_worths_here"]) fun _ _ _ _ _ _ us hl => match us, hl with | [_, _], _ => rfl
  have vd29 := PySem.W.mg_of X G ad29
  have Fd30 := fun_mk (st := s_l_lap) ld30 cd30 kd30
  have bd30 := Fd30.binds (ps := ["_law_pen_here", "_law_many", "_law_most"]) fun _ _ _ _ _ _ us hl => match us, hl with | [_, _, _], _ => rfl
  have vd30 := PySem.W.mg_of X G ad30
  have Fd31 := fun_mk (st := s_l_worths) ld31 cd31 kd31
  have bd31 := Fd31.binds (ps := ["_law_pen_here", "_law_many"]) fun _ _ _ _ _ _ us hl => match us, hl with | [_, _], _ => rfl
  have vd31 := PySem.W.mg_of X G ad31
  have Fd32 := fun_mk (st := s_l_is_right) ld32 cd32 kd32
  have bd32 := Fd32.binds (ps := ["_law_works_here", "_law_lap_here", "_law_worths_here"]) fun _ _ _ _ _ _ us hl => match us, hl with | [_, _, _], _ => rfl
  have vd32 := PySem.W.mg_of X G ad32
  have Fd33 := fun_mk (st := s_law) ld33 cd33 kd33
  have bd33 := Fd33.binds (ps := ["_law_script"]) fun _ _ _ _ _ _ us hl => match us, hl with | [_], _ => rfl
  have vd33 := PySem.W.mg_of X G ad33
  have Fm0 := fun_mk (st := s_Line_init) lm0 cm0 km0
  have Fm1 := fun_mk (st := s_Line_len) lm1 cm1 km1
  have bm1 := Fm1.binds (ps := ["self"]) fun _ _ _ _ _ _ us hl => match us, hl with | [_], _ => rfl
  have Fm2 := fun_mk (st := s_Line_call) lm2 cm2 km2
  have bm2 := Fm2.binds (ps := ["self", "one", "other"]) fun _ _ _ _ _ _ us hl => match us, hl with | [_, _, _], _ => rfl
  have Fm3 := fun_mk (st := s_Line_add) lm3 cm3 km3
  have bm3 := Fm3.binds (ps := ["self", "other"]) fun _ _ _ _ _ _ us hl => match us, hl with | [_, _], _ => rfl
  have Fm4 := fun_mk (st := s_Line_sub) lm4 cm4 km4
  have bm4 := Fm4.binds (ps := ["self", "other"]) fun _ _ _ _ _ _ us hl => match us, hl with | [_, _], _ => rfl
  have Fm5 := fun_mk (st := s_Line_neg) lm5 cm5 km5
  have bm5 := Fm5.binds (ps := ["self"]) fun _ _ _ _ _ _ us hl => match us, hl with | [_], _ => rfl
  have Fm6 := fun_mk (st := s_Line_eq) lm6 cm6 km6
  have bm6 := Fm6.binds (ps := ["self", "other"]) fun _ _ _ _ _ _ us hl => match us, hl with | [_, _], _ => rfl
  have Fm7 := fun_mk (st := s_Line_getitem) lm7 cm7 km7
  have bm7 := Fm7.binds (ps := ["self", "at"]) fun _ _ _ _ _ _ us hl => match us, hl with | [_, _], _ => rfl
  have Fm8 := fun_mk (st := s_Line_repr) lm8 cm8 km8
  have bm8 := Fm8.binds (ps := ["self"]) fun _ _ _ _ _ _ us hl => match us, hl with | [_], _ => rfl
  have Fp0 := fun_mk (st := s_Line_works) lp0 cp0 kp0
  have bp0 := Fp0.binds (ps := ["self"]) fun _ _ _ _ _ _ us hl => match us, hl with | [_], _ => rfl
  have N : Nums mg := ⟨⟨_, PySem.W.mg_of X G uN⟩, ⟨_, PySem.W.mg_of X G uS⟩, ⟨_, PySem.W.mg_of X G uM⟩⟩
  have hW : ∃ t, mg "MOST_WORKS" = some (.int 3 t) := ⟨_, PySem.W.mg_of X G uW⟩
  have hP : ∃ t, mg "NOTHING" = some (.int (-1) t) := ⟨_, PySem.W.mg_of X G uP⟩
  have hQ : ∃ t, mg "MOST_WORTH" = some (.int 20 t) := ⟨_, PySem.W.mg_of X G uQ⟩
  have hg := PySem.W.mg_of X G ug
  have cl : Cls K C := ⟨pg, hd, po, sa⟩
  have T : LC K mg C := ⟨cl, nW, nB, nR, PySem.W.mg_of X G aC⟩
  have kit : PySem.W.kitOne K (.ref C) (.ref C) = some true := by unfold PySem.W.kitOne; simp
  have I : LI K C := ⟨ha, hn, ht, hm, kit⟩
  have O : Ops K C := ⟨sf, ⟨none, rs, .inl rfl⟩, ⟨_, is1⟩, ⟨_, ir1⟩, nsub, ne, ob⟩
  have Mi : Mk K C fm0 := ⟨mk, am0, im0, kc⟩
  refine ⟨PySem.W.fnOf "law" "law" (defArgs s_law) (defBody s_law) (defScope s_law) .none kVd33 dcd33 pmd33 and33 cdd33 ctd33, fun s v => .of_eq rfl, fun base _ _ => ?_⟩
  have Gd0 := ok_is_int (P := l.prog) (w := w) (mg := mg) (base := base) (k := 0) Fd0 y_isinstance y_int y_bool
  have Gd1 := ok_is_between (P := l.prog) (w := w) (mg := mg) (base := base) (k := 1) Fd1 Gd0 kd0 bd0 vd0
  have Gd2 := ok_is_work (P := l.prog) (w := w) (mg := mg) (base := base) (k := 2) Fd2 N Gd1 kd1 bd1 vd1 y_isinstance y_tuple y_len y_all
  have Gd4 := ok_require_work (P := l.prog) (w := w) (mg := mg) (base := base) (k := 3) Fd4 Gd2 kd2 bd2 vd2
  have Gd5 := ok_clashes_behind (P := l.prog) (w := w) (mg := mg) (base := base) (k := 3) Fd5 N y_any y_zip
  have Gd3 := ok_bars (P := l.prog) (w := w) (mg := mg) (base := base) (k := 4) Fd3 Gd4 kd4 bd4 vd4 Gd5 kd5 bd5 vd5 y_tuple y_range y_len
  have Gd8 := ok_bars_of_all (P := l.prog) (w := w) (mg := mg) (base := base) (k := 5) Fd8 y_tuple Gd3 kd3 bd3 vd3
  have Gi := ok_init (P := l.prog) (w := w) (mg := mg) (base := base) (k := 6) Fm0 T hW (Gd2.mono (by decide)) kd2 bd2 vd2 Gd8 kd8 bd8 vd8 y_all y_len y_max
  have Glen := ok_len (P := l.prog) (w := w) (mg := mg) (base := base) (k := 1) Fm1 T y_len
  have Gd6 := ok_is_kind (P := l.prog) (w := w) (mg := mg) (base := base) (k := 2) Fd6 T y_len Gd1 kd1 bd1 vd1 Glen bm1 am1 im1
  have Gd7 := ok_require_kind (P := l.prog) (w := w) (mg := mg) (base := base) (k := 4) Fd7 Gd6 kd6 bd6 vd6
  have Gcall := ok_call (P := l.prog) (w := w) (mg := mg) (base := base) (k := 5) Fm2 T Gd7 kd7 bd7 vd7
  have Gadd := ok_add (P := l.prog) (w := w) (mg := mg) (base := base) (k := 7) Fm3 T I Mi Gi y_isinstance
  have Gsub := ok_sub (P := l.prog) (w := w) (mg := mg) (base := base) (k := 7) Fm4 T Mi Gi (Gd7.mono (by decide)) kd7 bd7 vd7 y_len
  have Gneg := ok_neg (P := l.prog) (w := w) (mg := mg) (base := base) (k := 7) Fm5 T Mi Gi
  have Geq := ok_eq (P := l.prog) (w := w) (mg := mg) (base := base) (k := 0) Fm6 T I y_isinstance
  have Gw := fn_getter (CX := CX0) (P := l.prog) (w := w) (mg := mg) (base := base) (k := 0) lp0 cp0 sc_Line_works rfl rfl cl nW
  have M : Meths l.prog w K mg base 10 C := ⟨T, I, O, ⟨_, _, Glen.mono (by decide), bm1, am1, im1⟩, ⟨_, _, ⟨Gcall.mono (by decide), bm2, am2, im2⟩, fi⟩, ⟨_, _, Gadd.mono (by decide), bm3, am3, im3⟩, ⟨_, _, Gsub.mono (by decide), bm4, am4, im4⟩,
    ⟨_, _, Gneg.mono (by decide), bm5, am5, im5⟩, ⟨_, _, Geq.mono (by decide), bm6, am6, im6⟩, ⟨_, _, _, ⟨ap0, gp0, tp0, _, rp0⟩, Gw.mono (by decide), bp0⟩, ⟨_, Mi, Gi.mono (by decide)⟩⟩
  have Gd19 := ok_l_cell (P := l.prog) (w := w) (mg := mg) (base := base) (k := 0) Fd19 y_len
  have Gd20 := ok_l_pen (P := l.prog) (w := w) (mg := mg) (base := base) (k := 0) Fd20 y_max
  have Gd21 := ok_l_draw (P := l.prog) (w := w) (mg := mg) (base := base) (k := 0) Fd21
  have Gd22 := ok_pick (P := l.prog) (w := w) (mg := mg) (base := base) (k := 1) Fd22 Gd21 kd21 bd21 vd21 y_len
  have Gd23 := ok_same3 (P := l.prog) (w := w) (mg := mg) (base := base) (k := 0) Fd23 y_repr
  have Gd24 := ok_l_work (P := l.prog) (w := w) (mg := mg) (base := base) (k := 1) Fd24 Gd21 kd21 bd21 vd21 y_range y_tuple
  have Gd26 := ok_l_works (P := l.prog) (w := w) (mg := mg) (base := base) (k := 2) Fd26 (Gd21.mono (by decide)) kd21 bd21 vd21 Gd24 kd24 bd24 vd24 y_range y_tuple
  have Gd25 := ok_made (P := l.prog) (w := w) (mg := mg) (base := base) (k := 7) Fd25 T Mi Gi y_len
  have Gd28 := ok_low (P := l.prog) (w := w) (mg := mg) (base := base) (k := 0) Fd28
  have Gd29 := ok_l_mean (P := l.prog) (w := w) (mg := mg) (base := base) (k := 1) Fd29 Gd28 kd28 bd28 vd28 y_sum y_len
  have Gd27 := ok_l_fits (P := l.prog) (w := w) (mg := mg) (base := base) (k := 0) Fd27 y_len y_range y_max y_enumerate
  have Gd30 := ok_l_lap (P := l.prog) (w := w) (mg := mg) (base := base) (k := 1) Fd30 Gd21 kd21 bd21 vd21 y_range y_tuple
  have Gd31 := ok_l_worths (P := l.prog) (w := w) (mg := mg) (base := base) (k := 2) Fd31 (Gd21.mono (by decide)) kd21 bd21 vd21 Gd22 kd22 bd22 vd22 y_range y_tuple
  have Gitem := ok_item (P := l.prog) (w := w) (mg := mg) (base := base) (k := 5) Fm7 T Gd7 kd7 bd7 vd7
  have Grepr := ok_repr (P := l.prog) (w := w) (mg := mg) (base := base) (k := 0) Fm8 T y_len
  have M2 : Meths2 l.prog w K mg base 10 C := ⟨M, ⟨_, _, ⟨Gitem.mono (by decide), bm7, am7, im7⟩, fg⟩, ⟨_, _, Grepr.mono (by decide), bm8, am8, im8⟩⟩
  have Mh : Meths l.prog w K mg base 12 C := ⟨T, I, O, ⟨_, _, Glen.mono (by decide), bm1, am1, im1⟩, ⟨_, _, ⟨Gcall.mono (by decide), bm2, am2, im2⟩, fi⟩, ⟨_, _, Gadd.mono (by decide), bm3, am3, im3⟩, ⟨_, _, Gsub.mono (by decide), bm4, am4, im4⟩,
    ⟨_, _, Gneg.mono (by decide), bm5, am5, im5⟩, ⟨_, _, Geq.mono (by decide), bm6, am6, im6⟩, ⟨_, _, _, ⟨ap0, gp0, tp0, _, rp0⟩, Gw.mono (by decide), bp0⟩, ⟨_, Mi, Gi.mono (by decide)⟩⟩
  have Mh2 : Meths2 l.prog w K mg base 12 C := ⟨Mh, ⟨_, _, ⟨Gitem.mono (by decide), bm7, am7, im7⟩, fg⟩, ⟨_, _, Grepr.mono (by decide), bm8, am8, im8⟩⟩
  have Gd9 := ok_require_line (P := l.prog) (w := w) (mg := mg) (base := base) (k := 0) Fd9 T I y_isinstance
  have Gd13 := ok_is_lap (P := l.prog) (w := w) (mg := mg) (base := base) (k := 10) Fd13 M2 hP (Gd1.mono (by decide)) kd1 bd1 vd1 y_isinstance y_tuple y_len y_all
  have Gd15 := ok_require_lap (P := l.prog) (w := w) (mg := mg) (base := base) (k := 13) Fd15 (Gd9.mono (by decide)) kd9 bd9 vd9 Gd13 kd13 bd13 vd13
  have Gd14 := ok_worth_of (P := l.prog) (w := w) (mg := mg) (base := base) (k := 0) Fd14 hP
  have Gd10 := ok_fraction (P := l.prog) (w := w) (mg := mg) (base := base) (k := 0) Fd10 hg
  have Gd17 := ok_is_worths (P := l.prog) (w := w) (mg := mg) (base := base) (k := 10) Fd17 M2 hQ (Gd1.mono (by decide)) kd1 bd1 vd1 y_isinstance y_tuple y_len y_all y_sum
  have Gd16 := ok_require_worths (P := l.prog) (w := w) (mg := mg) (base := base) (k := 13) Fd16 (Gd9.mono (by decide)) kd9 bd9 vd9 Gd17 kd17 bd17 vd17
  have Gd12 := ok_mean (P := l.prog) (w := w) (mg := mg) (base := base) (k := 14) Fd12 Gd15 kd15 bd15 vd15 Gd16 kd16 bd16 vd16 (Gd14.mono (by decide)) kd14 bd14 vd14 (Gd10.mono (by decide)) kd10 bd10 vd10 y_sum y_len
  have Gd18 := ok_clashes (P := l.prog) (w := w) (mg := mg) (base := base) (k := 10) Fd18 M2 hP y_any y_range y_len
  have Gd11 := ok_fits (P := l.prog) (w := w) (mg := mg) (base := base) (k := 14) Fd11 Gd15 kd15 bd15 vd15 (Gd18.mono (by decide)) kd18 bd18 vd18 y_any y_range y_len
  have Gd32 := ok_right (P := l.prog) (w := w) (mg := mg) (base := base) (k := 15) Fd32 (Gd25.mono (by decide)) kd25 bd25 vd25 (Gd27.mono (by decide)) kd27 bd27 vd27 (Gd29.mono (by decide)) kd29 bd29 vd29 Gd11 kd11 bd11 vd11 Gd12 kd12 bd12 vd12 (Gd23.mono (by decide)) kd23 bd23 vd23 y_repr
  exact ok_law (P := l.prog) (w := w) (mg := mg) (base := base) (k := 12) Fd33 Mh2 (Gd19.mono (by decide)) kd19 bd19 vd19 (Gd20.mono (by decide)) kd20 bd20 vd20 (Gd24.mono (by decide)) kd24 bd24 vd24 (Gd26.mono (by decide)) kd26 bd26 vd26 (Gd30.mono (by decide)) kd30 bd30 vd30 (Gd31.mono (by decide)) kd31 bd31 vd31 (Gd11.mono (by decide)) kd11 bd11 vd11 (Gd12.mono (by decide)) kd12 bd12 vd12 (Gd23.mono (by decide)) kd23 bd23 vd23 (Gd32.mono (by decide)) kd32 bd32 vd32 y_len y_range
end Sg

set_option Elab.async false
set_option linter.all false

open PySem PySem.W PyProof.Rows
set_option maxRecDepth 100000 in
set_option maxHeartbeats 0 in
theorem PySem.Challenge.cw_startgaps_k12_laps_fit_and_their_means_holds : PySem.Challenge.rw_startgaps_k12_laps_fit_and_their_means.Holds := by
  w_on; o_law; k_head; (case hw => w_witness2)
  k_fill
  refine Sg.walk_law (l := PySem.Challenge.rw_startgaps_k12_laps_fit_and_their_means) (k := 17) (x := "_law_script") (sp := Sg.spLaw) rfl rfl ⟨rfl, by decide, by decide⟩ (fun w h Y => PySem.W.kIn_of Y) ?F (fun K H a ns hl _ hS => ⟨a, ns, rfl, hS, hl, fun _ => rfl⟩)
  case F =>
    intro w mg fa h KX G hmg
    refine' Sg.all_mk KX G hmg ?ad0 ?ld0 ?cd0 ?kd0 ?ad1 ?ld1 ?cd1 ?kd1 ?ad2 ?ld2 ?cd2 ?kd2 ?ad3 ?ld3 ?cd3 ?kd3 ?ad4 ?ld4 ?cd4 ?kd4 ?ad5 ?ld5 ?cd5 ?kd5 ?ad6 ?ld6 ?cd6 ?kd6 ?ad7 ?ld7 ?cd7 ?kd7 ?ad8 ?ld8 ?cd8 ?kd8 ?ad9 ?ld9 ?cd9 ?kd9 ?ad10 ?ld10 ?cd10 ?kd10 ?ad11 ?ld11 ?cd11 ?kd11 ?ad12 ?ld12 ?cd12 ?kd12 ?ad13 ?ld13 ?cd13 ?kd13 ?ad14 ?ld14 ?cd14 ?kd14 ?ad15 ?ld15 ?cd15 ?kd15 ?ad16 ?ld16 ?cd16 ?kd16 ?ad17 ?ld17 ?cd17 ?kd17 ?ad18 ?ld18 ?cd18 ?kd18 ?ad19 ?ld19 ?cd19 ?kd19 ?ad20 ?ld20 ?cd20 ?kd20 ?ad21 ?ld21 ?cd21 ?kd21 ?ad22 ?ld22 ?cd22 ?kd22 ?ad23 ?ld23 ?cd23 ?kd23 ?ad24 ?ld24 ?cd24 ?kd24 ?ad25 ?ld25 ?cd25 ?kd25 ?ad26 ?ld26 ?cd26 ?kd26 ?ad27 ?ld27 ?cd27 ?kd27 ?ad28 ?ld28 ?cd28 ?kd28 ?ad29 ?ld29 ?cd29 ?kd29 ?ad30 ?ld30 ?cd30 ?kd30 ?ad31 ?ld31 ?cd31 ?kd31 ?ad32 ?ld32 ?cd32 ?kd32 ?ad33 ?ld33 ?cd33 ?kd33 ?aC ?am0 ?im0 ?lm0 ?cm0 ?km0 ?am1 ?im1 ?lm1 ?cm1 ?km1 ?am2 ?im2 ?lm2 ?cm2 ?km2 ?am3 ?im3 ?lm3 ?cm3 ?km3 ?am4 ?im4 ?lm4 ?cm4 ?km4 ?am5 ?im5 ?lm5 ?cm5 ?km5 ?am6 ?im6 ?lm6 ?cm6 ?km6 ?am7 ?im7 ?lm7 ?cm7 ?km7 ?am8 ?im8 ?lm8 ?cm8 ?km8 ?ap0 ?gp0 ?tp0 ?rp0 ?lp0 ?cp0 ?kp0 ?pg ?hd ?po ?sa ?mk ?kc ?nW ?nB ?nR ?ha ?hn ?ht ?hm ?sf ?rs ?is1 ?ir1 ?nsub ?ne ?ob ?fi ?fg ?z_isinstance ?z_int ?z_bool ?z_tuple ?z_len ?z_all ?z_any ?z_zip ?z_range ?z_max ?z_sum ?z_repr ?z_enumerate ?uN ?uS ?uM ?uW ?uP ?uQ ?ug
    (case ad0 => k_is)
    (case ld0 => k_is)
    (case cd0 => k_is)
    (case kd0 => k_is)
    (case ad1 => k_is)
    (case ld1 => k_is)
    (case cd1 => k_is)
    (case kd1 => k_is)
    (case ad2 => k_is)
    (case ld2 => k_is)
    (case cd2 => k_is)
    (case kd2 => k_is)
    (case ad3 => k_is)
    (case ld3 => k_is)
    (case cd3 => k_is)
    (case kd3 => k_is)
    (case ad4 => k_is)
    (case ld4 => k_is)
    (case cd4 => k_is)
    (case kd4 => k_is)
    (case ad5 => k_is)
    (case ld5 => k_is)
    (case cd5 => k_is)
    (case kd5 => k_is)
    (case ad6 => k_is)
    (case ld6 => k_is)
    (case cd6 => k_is)
    (case kd6 => k_is)
    (case ad7 => k_is)
    (case ld7 => k_is)
    (case cd7 => k_is)
    (case kd7 => k_is)
    (case ad8 => k_is)
    (case ld8 => k_is)
    (case cd8 => k_is)
    (case kd8 => k_is)
    (case ad9 => k_is)
    (case ld9 => k_is)
    (case cd9 => k_is)
    (case kd9 => k_is)
    (case ad10 => k_is)
    (case ld10 => k_is)
    (case cd10 => k_is)
    (case kd10 => k_is)
    (case ad11 => k_is)
    (case ld11 => k_is)
    (case cd11 => k_is)
    (case kd11 => k_is)
    (case ad12 => k_is)
    (case ld12 => k_is)
    (case cd12 => k_is)
    (case kd12 => k_is)
    (case ad13 => k_is)
    (case ld13 => k_is)
    (case cd13 => k_is)
    (case kd13 => k_is)
    (case ad14 => k_is)
    (case ld14 => k_is)
    (case cd14 => k_is)
    (case kd14 => k_is)
    (case ad15 => k_is)
    (case ld15 => k_is)
    (case cd15 => k_is)
    (case kd15 => k_is)
    (case ad16 => k_is)
    (case ld16 => k_is)
    (case cd16 => k_is)
    (case kd16 => k_is)
    (case ad17 => k_is)
    (case ld17 => k_is)
    (case cd17 => k_is)
    (case kd17 => k_is)
    (case ad18 => k_is)
    (case ld18 => k_is)
    (case cd18 => k_is)
    (case kd18 => k_is)
    (case ad19 => k_is)
    (case ld19 => k_is)
    (case cd19 => k_is)
    (case kd19 => k_is)
    (case ad20 => k_is)
    (case ld20 => k_is)
    (case cd20 => k_is)
    (case kd20 => k_is)
    (case ad21 => k_is)
    (case ld21 => k_is)
    (case cd21 => k_is)
    (case kd21 => k_is)
    (case ad22 => k_is)
    (case ld22 => k_is)
    (case cd22 => k_is)
    (case kd22 => k_is)
    (case ad23 => k_is)
    (case ld23 => k_is)
    (case cd23 => k_is)
    (case kd23 => k_is)
    (case ad24 => k_is)
    (case ld24 => k_is)
    (case cd24 => k_is)
    (case kd24 => k_is)
    (case ad25 => k_is)
    (case ld25 => k_is)
    (case cd25 => k_is)
    (case kd25 => k_is)
    (case ad26 => k_is)
    (case ld26 => k_is)
    (case cd26 => k_is)
    (case kd26 => k_is)
    (case ad27 => k_is)
    (case ld27 => k_is)
    (case cd27 => k_is)
    (case kd27 => k_is)
    (case ad28 => k_is)
    (case ld28 => k_is)
    (case cd28 => k_is)
    (case kd28 => k_is)
    (case ad29 => k_is)
    (case ld29 => k_is)
    (case cd29 => k_is)
    (case kd29 => k_is)
    (case ad30 => k_is)
    (case ld30 => k_is)
    (case cd30 => k_is)
    (case kd30 => k_is)
    (case ad31 => k_is)
    (case ld31 => k_is)
    (case cd31 => k_is)
    (case kd31 => k_is)
    (case ad32 => k_is)
    (case ld32 => k_is)
    (case cd32 => k_is)
    (case kd32 => k_is)
    (case ad33 => k_is)
    (case ld33 => k_is)
    (case cd33 => k_is)
    (case kd33 => k_is)
    (case aC => k_is)
    (case am0 => k_is)
    (case im0 => k_is)
    (case lm0 => k_is)
    (case cm0 => k_is)
    (case km0 => k_is)
    (case am1 => k_is)
    (case im1 => k_is)
    (case lm1 => k_is)
    (case cm1 => k_is)
    (case km1 => k_is)
    (case am2 => k_is)
    (case im2 => k_is)
    (case lm2 => k_is)
    (case cm2 => k_is)
    (case km2 => k_is)
    (case am3 => k_is)
    (case im3 => k_is)
    (case lm3 => k_is)
    (case cm3 => k_is)
    (case km3 => k_is)
    (case am4 => k_is)
    (case im4 => k_is)
    (case lm4 => k_is)
    (case cm4 => k_is)
    (case km4 => k_is)
    (case am5 => k_is)
    (case im5 => k_is)
    (case lm5 => k_is)
    (case cm5 => k_is)
    (case km5 => k_is)
    (case am6 => k_is)
    (case im6 => k_is)
    (case lm6 => k_is)
    (case cm6 => k_is)
    (case km6 => k_is)
    (case am7 => k_is)
    (case im7 => k_is)
    (case lm7 => k_is)
    (case cm7 => k_is)
    (case km7 => k_is)
    (case am8 => k_is)
    (case im8 => k_is)
    (case lm8 => k_is)
    (case cm8 => k_is)
    (case km8 => k_is)
    (case ap0 => k_is)
    (case gp0 => k_is)
    (case tp0 => k_is)
    (case rp0 => k_is)
    (case lp0 => k_is)
    (case cp0 => k_is)
    (case kp0 => k_is)
    (case pg => k_is)
    (case hd => k_is)
    (case po => k_is)
    (case sa => k_is)
    (case mk => k_is)
    (case kc => k_is)
    (case nW => k_is)
    (case nB => k_is)
    (case nR => k_is)
    (case ha => k_is)
    (case hn => k_is)
    (case ht => k_is)
    (case hm => k_is)
    (case sf => k_is)
    (case rs => k_is)
    (case is1 => k_is)
    (case ir1 => k_is)
    (case nsub => k_is)
    (case ne => k_is)
    (case ob => k_is)
    (case fi => k_is)
    (case fg => k_is)
    (case z_isinstance => k_is)
    (case z_int => k_is)
    (case z_bool => k_is)
    (case z_tuple => k_is)
    (case z_len => k_is)
    (case z_all => k_is)
    (case z_any => k_is)
    (case z_zip => k_is)
    (case z_range => k_is)
    (case z_max => k_is)
    (case z_sum => k_is)
    (case z_repr => k_is)
    (case z_enumerate => k_is)
    (case uN => k_is)
    (case uS => k_is)
    (case uM => k_is)
    (case uW => k_is)
    (case uP => k_is)
    (case uQ => k_is)
    (case ug => k_is)

