import PyProof.Rows.All
import HandS.ForMost
import HandS.IsInst
import HandS.TupMul
import HandS.TupAny
import HandS.Walk
import HandS.Zip
import PyProof.ReprRoads
import PyProof.ReprBulk
import KE.GoesMore
import PyProof.EnumMake
import HandS.Star
import HandS.Property
import HandS.SortKw
import KE.KOpsOwn
import KE.DataMinMax
import PyProof.InstNe
import HandS.Style
import HandS.DictTup
import PyProof.DictMoreH
import HandS.Iter
import PyProof.Rows.RowBridgeK
import HandS.Wide
import PyProof.Rows.ReprShort
import PyProof.ReprLen
import HandS.Conv
import HandS.TupSets
import PyProof.P3Statements
import HandS.SetFor
import HandS.Strs
import HandS.Dict
import HandS.More
import HandS.Deep
import KE.KDictKeyed
import KE.SortKeyHeap
import HandS.EndTab
import KE.KNest
import PyProof.CallFns
import PyProof.StrOps2
import HandS.HotCalls
import HandS.ExcIs
import HandS.ExcOwn
import HandS.WordsExc
import KE.KTryMore
import HandS.Comp
import HandS.Exc
import KE.GoesComp
import KE.GoesRaise
import PySem.Builtin._heapq.W4All
import HandS.Gcd
import KE.SortData
import KE.KDictWalk
import PySem.Challenge.RW_startgaps_k47_whole_waits_make_a_distanc
import HandS.FStr
import HandS.TupLe
set_option Elab.async false
set_option linter.all false
set_option maxRecDepth 100000
set_option maxHeartbeats 4000000
namespace Sg
open PySem PySem.Spec PyProof.Rows L2
/-! ## defs that may ask for a text of data: they run outside of every such text -/
/-- a promise that holds where no text of data is being made -/
structure FnG (P : Program) (w : World) (K : PySem.W.Frag) (mg : Str → Option Value) (base : Heap) (k : Nat) (f : Addr)
    (fd : FuncData) (ps : List Str) (sp : Sp) : Prop where
  arity : ∀ vs H Q, sp vs H Q E0 → vs.length = ps.length
  go : ∀ (A : Around) (outer : List Env) (s : Shared) (H : Hp) (args : Args) (us : List Value) (vs : List V) (Q : VK),
    A.guards = some [] → Room k A → Env0 P w K mg base A outer s H → BindsTo s fd args (ps.zip us) → Vals vs us →
    sp vs H Q E0 → codeAny (model P w) A (.call (.ref f) args) (CR CX0 outer P w H s Q E0) s
section
variable {P : Program} {w : World} {K : PySem.W.Frag} {mg : Str → Option Value} {base : Heap} {k : Nat} {f : Addr}
variable {fd : FuncData} {ps : List Str} {sp : Sp}
theorem FnG.of (F : FnOk P w K mg base CX0 k f fd ps sp) : FnG P w K mg base k f fd ps sp :=
  ⟨fun vs H Q h => F.len vs H Q E0 h, fun A outer s H args us vs Q _ hr e0 hb hv h =>
    F.run A outer s H args us vs Q E0 hr e0 hb hv h⟩
theorem FnG.mono {j : Nat} (F : FnG P w K mg base j f fd ps sp) (h : j ≤ k) : FnG P w K mg base k f fd ps sp :=
  ⟨F.arity, fun A outer s H args us vs Q hg hr => F.go A outer s H args us vs Q hg (hr.mono h)⟩
end
end Sg
set_option Elab.async false
set_option linter.all false
set_option maxRecDepth 100000
set_option maxHeartbeats 4000000
namespace Sg
open PySem PySem.Spec PyProof.Rows L2
/-! ## the law's own call -/
section
variable {P : Program} {w : World} {K : PySem.W.Frag} {mg mb : Str → Option Value} {k : Nat} {fa a : Addr}
variable {fd : FuncData} {x : Str} {sp : Sp} {s₁ : Shared} {vs : List Value} {ns : List Int}
/-- what is asked of the law's call -/
abbrev Ended (s₁ : Shared) : Result → Shared → Prop := fun r s' =>
  r = .ok (.ret (.bool true)) ∧ OldK s₁.heap s'.heap ∧ s'.os = s₁.os ∧ AllBare s'.gens
theorem call_from {H : Hp} (KX : K.In s₁.heap) (hns : s₁.heap.Ns mainGlobals mg) (hb : s₁.heap.Ns builtinsNs mb)
    (hbb : ∀ x : Str, x ≠ "__name__" → mb x = bootBuiltins x) (hlim : s₁.heap.NoLimit) (hg : s₁.gens = #[])
    (ha : s₁.heap.get? a = some { cls := .type "list", data := .seq vs.toArray }) (hr : Room k callerA)
    (F : ∀ base : Heap, K.In base → base.Ns mainGlobals mg → FnG P w K mg base k fa fd [x] sp)
    (hbind : ∀ (s : Shared) (u : Value), BindsTo s fd ⟨[u], []⟩ [(x, u)])
    (hsp : sp [.ref a] H (fun v _ => v = .bl true) E0) (hO : Only H) (hok : HOk P w H s₁.heap)
    (hA : ∀ b, H b ≠ none → b = a) (hK : H a ≠ none → K.lookup a = none) :
    codeAny (model P w) callerA (.call (.ref fa) ⟨[.ref a], []⟩) (Ended s₁) s₁ := by
  have only : ∀ {b : Addr} {u : HO}, H b = some u → b = a := fun z => hA _ (by rw [z]; exact fun q => nomatch q)
  have free : ∀ {b : Addr} {o : Obj} {es : Array DictEntry} {ep : Nat},
      s₁.heap.get? b = some o → o.data = .dict es ep → H b = none := by
    intro b o es ep e d
    rcases q : H b with _ | u
    · rfl
    · rw [only q, ha] at e
      have e' := Option.some.inj e
      rw [← e'] at d
      exact nomatch d
  have nsK : ∀ {b : Addr} {m : Str → Option Value}, s₁.heap.Ns b m → (hidT s₁.heap H).Ns b m := by
    rintro b m ⟨o, es, ep, e, d, r⟩
    exact ⟨o, es, ep, hidT_get e (free e d), d, r⟩
  have hKb : K.In (hidT s₁.heap H) := by
    intro b o e
    refine hidT_get (KX b o e) ?_
    rcases q : H b with _ | u
    · rfl
    · have e' := only q
      subst e'
      have z := hK (by rw [q]; exact fun q => nomatch q)
      rw [z] at e
      exact nomatch e
  have hM : Mod K mg (hidT s₁.heap H) := by
    refine ⟨hKb, nsK hns, ⟨mb, nsK hb, hbb⟩, ?_⟩
    obtain ⟨mc, h1, h2⟩ := hlim
    exact ⟨mc, nsK h1, h2⟩
  have e0 : Env0 P w K mg (hidT s₁.heap H) callerA [] s₁ H := by
    refine ⟨rfl, hM, fun b o e => of_hidT e, Nat.le_of_eq (hidT_size _ _), trivial, ?_, hok, .of_eq hg⟩
    intro b hb
    have hb' : b ∈ ([] : List Addr) := hb
    exact nomatch hb'
  have run := (F _ hKb (nsK hns)).go callerA [] s₁ H ⟨[.ref a], []⟩ [.ref a] [.ref a] _ rfl hr e0
    (hbind s₁ (.ref a)) (.cons rfl .nil) hsp
  refine codeAny_mono run ?_
  intro r s' h
  match r, h with
  | .error _, h => exact h.elim
  | .ok .next, h => exact h.elim
  | .ok .brk, h => exact h.elim
  | .ok .cont, h => exact h.elim
  | .ok (.ret u), h =>
    obtain ⟨v, H', os, bare, un, hok', r', q⟩ := h
    have q' : v = .bl true := q
    subst q'
    have eu : u = Value.bool true := r'
    subst eu
    refine ⟨rfl, OldK.of_keep ?_, os, bare⟩
    intro b o e
    rcases q : H b with _ | u
    · refine un.keep b o e q (fun z => ?_) (fun z => nomatch z)
      have z' : b ∈ ([] : List Addr) := z
      exact nomatch z'
    · rcases hO b with z | ⟨ob, xs, z⟩
      · rw [q] at z; exact nomatch z
      · obtain ⟨e1, _⟩ := hok b _ z
        obtain ⟨e2, _⟩ := hok' b _ (un.frzs b ob _ z)
        rw [e] at e1
        rw [e2, Option.some.inj e1]
theorem call_law (KX : K.In s₁.heap) (hns : s₁.heap.Ns mainGlobals mg) (hb : s₁.heap.Ns builtinsNs mb)
    (hbb : ∀ x : Str, x ≠ "__name__" → mb x = bootBuiltins x) (hlim : s₁.heap.NoLimit) (hg : s₁.gens = #[])
    (ha : s₁.heap.get? a = some { cls := .type "list", data := .seq vs.toArray }) (hi : IntsAre vs ns)
    (hl : ns.length ≤ sizeLine) (hr : Room k callerA)
    (F : ∀ base : Heap, K.In base → base.Ns mainGlobals mg → FnG P w K mg base k fa fd [x] sp)
    (hbind : ∀ (s : Shared) (u : Value), BindsTo s fd ⟨[u], []⟩ [(x, u)])
    (hsp : ∀ H : Hp, Only H → SqL K H a (ns.map V.int) → sp [.ref a] H (fun v _ => v = .bl true) E0) :
    codeAny (model P w) callerA (.call (.ref fa) ⟨[.ref a], []⟩) (Ended s₁) s₁ := by
  have rv := vals_ints hi
  have lenV := hi.length
  rcases hk : K.lookup a with _ | o
  · let H : Hp := fun b => if b = a then some (.frz { cls := .type "list", data := .seq vs.toArray } (.lst (ns.map V.int))) else none
    have at_a : H a = some (.frz { cls := .type "list", data := .seq vs.toArray } (.lst (ns.map V.int))) := if_pos rfl
    have off : ∀ b, b ≠ a → H b = none := fun b hb => if_neg hb
    have onlyH : Only H := by
      intro b
      by_cases hb : b = a
      · exact .inr ⟨_, _, if_pos hb⟩
      · exact .inl (off b hb)
    refine call_from (H := H) KX hns hb hbb hlim hg ha hr F hbind (hsp H onlyH (.inl (.inr ⟨_, at_a⟩))) onlyH ?_ ?_ (fun _ => hk)
    · intro b u z
      by_cases hb : b = a
      · subst hb
        rw [at_a] at z
        obtain rfl := Option.some.inj z
        exact ⟨ha, by rw [List.length_map]; exact hl, vs, _, rv, ha⟩
      · rw [off b hb] at z; exact nomatch z
    · intro b z
      by_cases hb : b = a
      · exact hb
      · exact absurd (off b hb) z
  · have e := KX a o hk
    rw [ha] at e
    obtain rfl := Option.some.inj e
    refine call_from (H := fun _ => none) KX hns hb hbb hlim hg ha hr F hbind (hsp _ (fun _ => .inl rfl) (.inr ?_)) (fun _ => .inl rfl)
      (fun b u z => nomatch z) (fun b z => absurd rfl z) (fun z => absurd rfl z)
    exact ⟨_, vs.toArray, _, hk, rfl, rfl, rfl, by rw [List.size_toArray, lenV]; exact hl, rv⟩
end
/-- the end of a law's proof -/
theorem walk_law {l : PySem.W.OpenLaw} {k : Nat} {q : Program} {loose : List Str} {XP : (Str → Option Value) → Heap → Prop}
    {YP : World → Heap → Prop} {d : DefRec} {K : Params → PySem.W.Frag} {sp : PySem.W.Frag → Sp} {x : Str}
    (hn : l.most = some 63) (hdf : d.params.defaults = []) (hr : Room k callerA)
    (hY : ∀ (w : World) (h : Heap), YP w h → (K w.params).In h)
    (F : ∀ (w : World) (mg : Str → Option Value) (fa : Addr) (h : Heap), (K w.params).In h → h.Ns mainGlobals mg →
      mg d.name = some (.ref fa) → ∃ fd : FuncData, (∀ (s : Shared) (u : Value), BindsTo s fd ⟨[u], []⟩ [(x, u)]) ∧
        ∀ base : Heap, (K w.params).In base → base.Ns mainGlobals mg →
          FnG l.prog w (K w.params) mg base k fa fd [x] (sp (K w.params)))
    (hsp : ∀ (K : PySem.W.Frag) (H : Hp) (a : Addr) (ns : List Int), ns.length ≤ 63 → Only H → SqL K H a (ns.map V.int) →
      sp K [.ref a] H (fun v _ => v = .bl true) E0) :
    PySem.W.WalkO q loose XP YP l.row.toRowW d [] (fun f vs => PySem.call f vs) := by
  refine Att.attach_call hn hdf ?_
  intro w s₀ s₁ mg mb fa o pm cd doc a vs ns G Y ho hd hcd hmg hobj hints hlen hg
  obtain ⟨fd, hb, hF⟩ := F w mg fa _ (hY w _ Y) G.T.g hmg
  exact call_law (hY w _ Y) G.T.g G.T.b G.T.builtins G.T.nolimit hg hobj hints
    (Nat.le_trans hlen (by decide)) hr hF hb (fun H hO hS => hsp _ H a ns hlen hO hS)
end Sg
set_option Elab.async false
set_option linter.all false
set_option maxRecDepth 100000
set_option maxHeartbeats 4000000
namespace PySem
open Sem (wp)
open AutoSeq1 (wpAny_loadPart')
/-- enumerate(t), t a tuple: its two new cells -/
theorem sg_enum_new (l : Addr) (items : Array Value) :
    Meets (Builtin.«enumerate.__new__» ⟨[.type "enumerate", .ref l], []⟩) (fun _ R s => s.heap.IsTuple l items ∧
      R (.ok (.ret (.ref (s.heap.push { cls := .type "tuple_iterator", data := .fields #[.ref l, .int 0 0] }).objs.size)))
        { s with heap := ((s.heap.push { cls := .type "tuple_iterator", data := .fields #[.ref l, .int 0 0] }).push { cls := .type "enumerate", data := .fields #[.none, .bool false, .ref s.heap.objs.size, rawInt 0, .none, .none] }) }) := by
  refine .of_wp ?_
  intro prog w A R s h
  obtain ⟨hp, g, d, tk, os⟩ := s
  obtain ⟨hT, h⟩ := h
  obtain ⟨o, hl, hc, n, hd⟩ := id hT
  have hsub := sub_enumerate
  wp_walk using wpAny_loadPart' hl
  refine wpAny_stack_any fun st => wpAny_pure ?_
  split
  · rename_i c _ _ _ _ _
    rcases hcc : (c == Value.type "enumerate") with _ | _ <;>
    · wp_walk using wpAny_loadPart' hl, wpAny_pyIter_tuple hT
      exact ⟨_, rfl, h⟩
  · wp_walk using wpAny_loadPart' hl, wpAny_pyIter_tuple hT
    exact ⟨_, rfl, h⟩
section
variable {prog : Program} {w : World} {A : Around} {E : Value → Shared → Prop} {s : Shared}
theorem sg_call_enum {l : Addr} {items : Array Value} {Q : Value → Shared → Prop} (hL : s.heap.IsTuple l items)
    (h : ∀ h', IsEnum h' (s.heap.objs.size + 1) s.heap.objs.size 0 .none → h'.IsTupleIter s.heap.objs.size l 0 →
      (∀ b o, s.heap.get? b = some o → h'.get? b = some o) → Q (.ref (s.heap.objs.size + 1)) { s with heap := h' }) :
    wpAny (model prog w) A (call (.type "enumerate") [.ref l]) Q E s := by
  refine callType_new F.called_enumerate (by decide) (F.typeCall_enumerate_1 _) (F.newCall_enumerate_1 _)
    (fun obj => F.args_object_init_2 obj _) F.entry_enumerate_new (sg_enum_new l items) ⟨hL, ?_⟩
  let o1 : Obj := { cls := .type "tuple_iterator", data := .fields #[.ref l, .int 0 0] }
  have hz : (s.heap.push o1).objs.size = s.heap.objs.size + 1 := Heap.size_push ..
  show _ ∧ _
  rw [hz]
  have he : IsEnum ((s.heap.push o1).push { cls := .type "enumerate", data := .fields #[.none, .bool false, .ref s.heap.objs.size, rawInt 0, .none, .none] })
      (s.heap.objs.size + 1) s.heap.objs.size 0 .none := by
    have z := Heap.get?_push_size (s.heap.push o1)
      (o := { cls := .type "enumerate", data := .fields #[.none, .bool false, .ref s.heap.objs.size, rawInt 0, .none, .none] }) rfl
    rw [hz] at z
    exact z
  refine ⟨⟨_, he, rfl⟩, h _ he ⟨_, Heap.get?_push_of_some _ (Heap.get?_push_size _ rfl), rfl, rfl⟩ ?_⟩
  intro b o x
  exact Heap.get?_push_of_some _ (Heap.get?_push_of_some _ x)
end
end PySem
namespace Sg
open PySem PySem.Spec PyProof.Rows L2
/-- the tuple at a, item by item, each in a new pair with its place -/
def ItE (K : PySem.W.Frag) (a : Addr) : It :=
  ⟨fun i H => ∃ (xs : List V) (x : V), SqT K H a xs ∧ xs[i]? = some x,
   fun i H v H' => ∃ T x, v = .ref T ∧ H T = none ∧ H' = upd H T (.tup [.int (i : Nat), x]) ∧ ∀ xs, SqT K H a xs → xs[i]? = some x,
   fun i H => ∃ xs : List V, SqT K H a xs ∧ xs.length ≤ i⟩
theorem turn_enumT {P : Program} {w : World} {K : PySem.W.Frag} {elts : List Expr} {kk : Nat} {tpos : Pos} (a e it : Addr) :
    Turn P w K (.Tuple elts kk tpos) (ItE K a) [e, it] e
      (fun i h => (∃ old, IsEnum h e it ((i : Nat) : Int) old) ∧ h.IsTupleIter it a i ∧ e ≠ it) := by
  have two : ∀ {b : Addr}, b ∈ [e, it] → b = e ∨ b = it := fun {b} hb => by simpa using hb
  refine ⟨by simp, ?_, ?_, ?_, ?_, ?_⟩
  · rintro i h ⟨⟨old, he⟩, ⟨o, ho, hc, hd⟩, _⟩ b hb
    rcases two hb with rfl | rfl
    · exact ⟨_, he, fun v q => nomatch q⟩
    · refine ⟨o, ho, fun v q => ?_⟩
      rw [hd] at q
      exact nomatch q
  · rintro i h h' ⟨⟨old, he⟩, hi, hne⟩ k
    exact ⟨⟨old, k e (by simp) _ he⟩, hi.at fun o q => k it (by simp) o q, hne⟩
  · intro X hP hw hK hc i pins s σ H E I hf st hg
    subst hP hw hK
    obtain ⟨⟨old, he⟩, hit, hne⟩ := st
    obtain ⟨xs, x, hq, hx⟩ := hg
    obtain ⟨its, rv, p, hz⟩ := I.tuple hq
    obtain ⟨u, hu, ru⟩ := rv.get hx
    have hel : e < s.heap.objs.size := Heap.lt_size he
    have hil : it < s.heap.objs.size := by obtain ⟨_, q, _⟩ := hit; exact Heap.lt_size q
    have hai : a ≠ it := by
      rintro rfl
      obtain ⟨o, ho, hcl, _⟩ := p
      obtain ⟨o', ho', hcl', _⟩ := hit
      rw [ho] at ho'
      obtain rfl := Option.some.inj ho'
      rw [hcl] at hcl'
      exact absurd hcl' (by decide)
    have hae : e ≠ a := by
      rintro rfl
      obtain ⟨o, ho, hcl, _⟩ := p
      have he' : s.heap.get? e = _ := he
      rw [ho] at he'
      obtain rfl := Option.some.inj he'
      have z : ("enumerate" : String) = "tuple" := Value.type.inj hcl
      exact absurd z (by decide)
    have hlt : i < its.length := (List.getElem?_eq_some_iff.mp hu).1
    refine wpAny_pyNext_enum_itemD (Draws.tuple (A := X.A.in1) (I.ok.hd hc) it a hai its.toArray) he ⟨hit, p⟩
      (by simpa using hlt) hne (by simp [hne, hae]) ?_
    intro x' h' tk hP ho hs' hT hsz hk
    have hxu : x' = u := by
      have z : its[i]? = some x' := by simpa using hP
      rw [hu] at z
      exact (Option.some.inj z).symm
    subst hxu
    refine ⟨_, rfl, wpAny_letOwnedTupleGo_enum (s := { s with heap := h', toks := tk + 1 }) ho ?_⟩
    intro h'' he' sb
    have hT2 : h''.get? s.heap.objs.size = some { cls := .type "tuple", data := .seq #[.int i tk, x'] } :=
      (sb.2 _ (Nat.ne_of_gt hel)).trans hT
    have new : ObjOk X.prog X.w (upd H s.heap.objs.size (.tup [.int (i : Nat), x])) h'' s.heap.objs.size (.tup [.int (i : Nat), x]) := by
      refine ⟨by show 2 ≤ sizeLine; decide, [.int i tk, x'], .cons ⟨_, rfl⟩ (.cons ru .nil), ⟨_, hT2, rfl, _, rfl⟩⟩
    have I1 : Inv X pins σ (upd H s.heap.objs.size (.tup [.int (i : Nat), x])) { s with heap := h'', toks := tk + 1 } := by
      refine I.turnedNew (ch := [e, it]) ?_ hf (Nat.le_refl _) new
      intro b ob hb q
      have n1 : b ≠ e := fun z => hb (by simp [z])
      have n2 : b ≠ it := fun z => hb (by simp [z])
      exact (sb.2 b n1).trans (hk b ob n1 n2 q)
    refine ⟨.ref s.heap.objs.size, _, I1, rfl, ⟨_, x, rfl, I.hok.fresh (Nat.le_refl _), rfl, ?_⟩, ⟨⟨x', ?_⟩, ?_, hne⟩, ?_⟩
    · intro ys hy
      rw [I.tuple_inj hy hq]
      exact hx
    · have e1 : ((i + 1 : Nat) : Int) = (i : Int) + 1 := by omega
      rw [e1]
      exact he'
    · exact hs'.1.at fun o q => (sb.2 it (Ne.symm hne)).trans q
    · intro b hb
      have hb' : b < s.heap.objs.size := by
        rcases two hb with rfl | rfl
        · exact hel
        · exact hil
      rw [upd_ne (Nat.ne_of_lt hb')]
      exact (hf b hb).1
  · intro X hP hw hK hc i pins s σ H E I hf st hg
    subst hP hw hK
    obtain ⟨⟨old, he⟩, hit, hne⟩ := st
    obtain ⟨xs, hq, hx⟩ := hg
    obtain ⟨its, rv, p, hz⟩ := I.tuple hq
    obtain ⟨f0, f1, f2, f3, f4, f5⟩ := hf it (by simp)
    have hl := rv.length
    have hh : X.A.in1.in1.handled = none := I.ok.hd hc
    have hai : a ≠ it := by
      rintro rfl
      obtain ⟨o, ho, hcl, _⟩ := p
      obtain ⟨o', ho', hcl', _⟩ := hit
      rw [ho] at ho'
      obtain rfl := Option.some.inj ho'
      rw [hcl] at hcl'
      exact absurd hcl' (by decide)
    unfold pyNext
    have hTy : s.TypeIs (.ref e) "enumerate" := ⟨_, he, rfl⟩
    refine wpAny_bind (wpAny_attempt (wpAny_callSpecial?_slot (name := Str.ofString "__next__") hTy F.slot_enumerate_next
      (wpAny_call_entry F.slot_enumerate_next hTy F.entry_enumerate_next ?_ (F.args_enumerate_next_1 _))))
    show wpAny _ _ (field (.ref e) 2 >>= _) _ _ _
    refine wpAny_bind (wpAny_field he rfl (x := .ref it) rfl ?_)
    refine wpAny_bind (wpAny_nextOf_tuple_end hh hit p (by simp; omega) ?_)
    rintro h' x he' ⟨o, ho, hcl⟩
    refine wpAny_bind (wpAny_isInstance (T := "StopIteration") (b := true) ⟨o, ho, hcl⟩ isSubtype_stop (wpAny_pure ?_))
    exact ⟨rfl, I.turned (t' := s.toks) (fun b o hb q => he' b o hb q) f0 f1 f3 f4 f5⟩
  · intro A i s Q E st h
    obtain ⟨⟨_, he⟩, _⟩ := st
    exact wpAny_pyIter_enum he h
def iEnT (K : PySem.W.Frag) (ta : TA) : TI := fun σ H R => ta σ H fun vs H1 => ∃ a xs, vs = [.ref a] ∧ SqT K H1 a xs ∧ R (ItE K a) H1
theorem pi_enumT {X : Cx} {e : Expr} {ta : TA} {p pos tpos : Pos} {elts : List Expr} {kk : Nat} (hg : Gl X "enumerate")
    (hm : X.mg "enumerate" = none) (ha : PA X [e] ta) (hs : starEach [e] X.env = [(false, eval e X.env)] := by rfl) :
    PI X (.Tuple elts kk tpos) (.Call (.Name "enumerate" p) [e] [] pos) (iEnT X.K ta) := by
  constructor
  intro pins s σ H R I h
  refine Call_ (ld_blt I hg hm boot_enumerate (PyProof.Rows.callWith_type1 (thn (ha.run pos pins s σ H _ I h) ?_) hs rfl))
  rintro us s1 ⟨vs, H1, I1, r1, a, xs, rfl, hq, q⟩
  obtain ⟨u, rfl, rfl⟩ := vals1 r1
  obtain ⟨its, rv, p', hz⟩ := I1.tuple hq
  refine sg_call_enum p' ?_
  intro h' he hit hk
  refine wpAny_pyIter_enum he ?_
  have I2 : Inv X pins σ H1 { s1 with heap := h' } := I1.kept (t' := s1.toks) hk
  refine ⟨s1.heap.objs.size + 1, [s1.heap.objs.size + 1, s1.heap.objs.size], _, _, H1, rfl, I2,
    turn_enumT a (s1.heap.objs.size + 1) s1.heap.objs.size, ⟨⟨.none, he⟩, hit, Nat.succ_ne_self _⟩, ?_, q⟩
  intro b hb
  have hle : s1.heap.objs.size ≤ b := by
    have e' : b = s1.heap.objs.size + 1 ∨ b = s1.heap.objs.size := by simpa using hb
    rcases e' with rfl | rfl
    · exact Nat.le_succ _
    · exact Nat.le_refl _
  exact I1.fpOk hle (I1.hok.fresh hle)
end Sg
set_option Elab.async false
set_option linter.all false
set_option maxRecDepth 100000
set_option maxHeartbeats 4000000
namespace Sg
open PySem PySem.Spec PyProof.Rows L2
/-! ## [c for a in t for b in a for c in b], tuples all the way down -/
/-- slots that agree but for those of ws -/
def Ag (ws : List Nat) (σ σ' : L2.St) : Prop := σ'.length = σ.length ∧ ∀ j, j ∉ ws → σ'[j]? = σ[j]?
theorem Ag.refl (ws : List Nat) (σ : L2.St) : Ag ws σ σ := ⟨rfl, fun _ _ => rfl⟩
theorem Ag.trans {ws : List Nat} {a b c : L2.St} (h : Ag ws a b) (k : Ag ws b c) : Ag ws a c := ⟨k.1.trans h.1, fun j hj => (k.2 j hj).trans (h.2 j hj)⟩
theorem Ag.set {ws : List Nat} {σ : L2.St} {k : Nat} {v : Option V} (hk : k ∈ ws) : Ag ws σ (σ.set k v) := ⟨List.length_set, fun j hj => by
  rw [List.getElem?_set_ne]
  rintro rfl
  exact hj hk⟩
theorem Ag.mono {ws us : List Nat} {σ σ' : L2.St} (h : Ag ws σ σ') (k : ∀ j ∈ ws, j ∈ us) : Ag us σ σ' := ⟨h.1, fun j hj => h.2 j fun z => hj (k j z)⟩
/-- a turn of a loop of a comprehension without tests -/
def flatTurn (e : Expr) (d : Nat) (it D : Addr) (n : Str) (p pos : Pos) (bd : Sem Fin → Sem Fin) (env : Env) : Sem Fin :=
  standAt pos >>= fun _ => pyNext (.ref it) >>= fun r => match r with
    | none => pure (.done .next)
    | some v => letOwnedTupleGo (.Name n p) (.ref it) v >>= fun _ => assign (.Name n p) env v >>= fun _ =>
      bd (again (.compLoop e d (.ref it) (.ref D) env))
section
variable {Z : Cx} {elt : Expr} {gens : List Comprehension} {scope : Scope} {cpos p pos : Pos} {d k : Nat} {it D c : Addr} {n : Str} {bd : Sem Fin → Sem Fin}
variable {R : Result → Shared → Prop} {xs : List V} {pins : List (Addr × Obj)} {ws : List Nat}
theorem flat_loop (hxe : Z.xe = fun _ _ => False) (hcalm : Z.calm = true) (hN : Z.N.Nodup)
    (hturn : compTurn (.ListComp elt gens scope cpos) d (.ref it) (.ref D) Z.env = flatTurn (.ListComp elt gens scope cpos) d it D n p pos bd Z.env)
    (hk : Z.N[k]? = some n) (hloc : Loc Z.env.scope n) (hfn : Z.fn n = true ∨ Z.env.scope.names.lookup n = some .local) (hkw : k ∈ ws)
    (σ : L2.St) (G : Nat → Hp → Prop) (hG : ∀ i H, i ≤ xs.length → G i H → SqT Z.K H c xs) (hfp : ∀ H, H it = none → FpOk Z pins H it)
    (hbd : ∀ i x s σ' H, xs[i]? = some x → G i H → H it = none → Inv Z (pins ++ pinsAt [it] s.heap) σ' H s → σ'[k]? = some (some x) → Ag ws σ σ' →
      ∀ (kk : Sem Fin) (Qf : Fin → Shared → Prop) (Ef : Value → Shared → Prop),
        (∀ s' σ'' H', Inv Z (pins ++ pinsAt [it] s.heap) σ'' H' s' → Ag ws σ σ'' → G (i + 1) H' → wpAny (model Z.prog Z.w) Z.A kk Qf Ef s') → wpAny (model Z.prog Z.w) Z.A (bd kk) Qf Ef s)
    (hfin : ∀ s' σ' H', Inv Z pins σ' H' s' → Ag ws σ σ' → G xs.length H' → R (.ok .next) s')
    {s : Shared} {σ₀ : L2.St} {H₀ : Hp} (I₀ : Inv Z pins σ₀ H₀ s) (ag₀ : Ag ws σ σ₀) (g₀ : G 0 H₀) (n₀ : H₀ it = none) (st₀ : s.heap.IsTupleIter it c 0) :
    codeAny (model Z.prog Z.w) Z.A (.compLoop (.ListComp elt gens scope cpos) d (.ref it) (.ref D) Z.env) R s := by
  have T := turn_tuple (P := Z.prog) (w := Z.w) (K := Z.K) (tg := .Name n p) c it
  have hb1 : ∀ {H : Hp}, H it = none → ∀ b ∈ [it], FpOk Z pins H b := by
    intro H hn b hb
    rw [List.mem_singleton.mp hb]
    exact hfp H hn
  refine codeAny_loop rfl (fun m s' => ∃ i σ' H', Inv Z pins σ' H' s' ∧ Ag ws σ σ' ∧ G i H' ∧ H' it = none ∧ s'.heap.IsTupleIter it c i ∧ i ≤ xs.length ∧ m = xs.length - i) ?_ xs.length
    ⟨0, σ₀, H₀, I₀, ag₀, g₀, n₀, st₀, Nat.zero_le _, rfl⟩
  rintro m s1 ⟨i, σ1, H1, I1, ag1, g1, n1, st1, hi, rfl⟩
  show wpAny _ Z.A ((compTurn (.ListComp elt gens scope cpos) d (.ref it) (.ref D) Z.env).onRaise (fun x => do noteFrame x Z.env; theTreesLotGoes x)) _ _ s1
  refine wpAny_noted ?_
  rw [hturn]
  refine wpAny_bind (wpAny_standAt (wpAny_bind ?_))
  have hq := hG i H1 hi g1
  by_cases hlt : i < xs.length
  · have go := T.item Z rfl rfl rfl hcalm i pins s1 σ1 H1 (fun _ _ => False) I1 (hb1 n1) st1 ⟨xs, xs[i], hq, List.getElem?_eq_getElem hlt⟩
    refine thnF go ?_
    rintro r s2 ⟨u, rfl, h2⟩
    refine wpAny_bind (thnF h2 ?_)
    rintro _ s3 ⟨x, H3, I3, r3, ⟨eH, hy⟩, st3, n3⟩
    subst eH
    have hx : xs[i]? = some x := hy xs hq
    have n3' : H3 it = none := n3 it (List.mem_singleton.mpr rfl)
    have I3' := I3.pinned (hb1 n3') (T.obj _ _ st3)
    have ia := (pg_name (X := Z) (pos := p) hN hk hloc hfn).run _ s3 σ1 H3 x u (fun σ' H' => σ' = σ1.set k (some x) ∧ H' = H3) I3' r3 ⟨rfl, rfl⟩
    rw [hxe] at ia
    refine wpAny_bind (thnF ia ?_)
    rintro _ s4 ⟨σ4, H4, I4, rfl, rfl⟩
    obtain ⟨o, ho, hoc⟩ := T.obj _ _ st3 it (List.mem_singleton.mpr rfl)
    have pin4 := I4.pin (it, o) (List.mem_append_right _ (List.mem_append_right _ (mem_pinsAt (List.mem_singleton.mpr rfl) ho)))
    have ep : pinsAt [it] s3.heap = pinsAt [it] s4.heap := by
      unfold pinsAt
      rw [List.filterMap_cons, List.filterMap_cons, ho, pin4.1]
      rfl
    rw [ep] at I4
    have hσ4 : (σ1.set k (some x))[k]? = some (some x) := by
      have hkl : k < σ1.length := by rw [I1.len]; exact (List.getElem?_eq_some_iff.mp hk).1
      rw [List.getElem?_set_self hkl]
    refine hbd i x s4 _ _ hx g1 n3' I4 hσ4 (ag1.trans (Ag.set hkw)) _ _ _ ?_
    intro s5 σ5 H5 I5 ag5 g5
    have pin5 := I5.pin (it, o) (List.mem_append_right _ (List.mem_append_right _ (mem_pinsAt (List.mem_singleton.mpr rfl) pin4.1)))
    have st5 : s5.heap.IsTupleIter it c (i + 1) := T.keep _ _ _ st3 (by
      intro b hb o' e
      rw [List.mem_singleton.mp hb] at e ⊢
      rw [ho] at e
      rw [← Option.some.inj e]
      exact pin5.1)
    exact wpAny_pure ⟨rfl, xs.length - (i + 1), by omega, i + 1, σ5, H5, I5.unpinned, ag5, g5, pin5.2.1, st5, hlt, rfl⟩
  · have e : i = xs.length := by omega
    subst e
    have stop := T.done Z rfl rfl rfl hcalm xs.length pins s1 σ1 H1 (fun _ _ => False) I1 (hb1 n1) st1 ⟨xs, hq, Nat.le_refl _⟩
    refine thnF stop ?_
    rintro r s2 ⟨rfl, I2⟩
    exact wpAny_pure (hfin s2 σ1 H1 I2 ag1 g1)
end
/-! ### the three clauses -/
abbrev flatE (n1 n2 n3 : Str) (iter : Expr) (scope : Scope) (q1 q2 q3 a1 a2 a3 pos : Pos) : Expr :=
  .ListComp (.Name n3 a3) [⟨.Name n1 q1, iter, [], 0⟩, ⟨.Name n2 q2, .Name n1 a1, [], 0⟩, ⟨.Name n3 q3, .Name n2 a2, [], 0⟩] scope pos
section
variable {n1 n2 n3 : Str} {iter : Expr} {scope : Scope} {q1 q2 q3 a1 a2 a3 pos : Pos} {it D : Addr} {env : Env}
abbrev downBody (e i : Expr) (d : Nat) (D : Addr) (env : Env) (kk : Sem Fin) : Sem Fin := eval i env >>= fun x => standAt i.pos >>= fun _ =>
  foldedSetIterable i env x >>= fun x => holding [x] (pyIter x) >>= fun it' => runOwn (.compStart e d it' (.ref D) env) env >>= fun _ => kk
abbrev addBody (elt : Expr) (D : Addr) (env : Env) (kk : Sem Fin) : Sem Fin :=
  (eval elt env >>= fun x => call (.builtin "list.append") [.ref D, x] >>= fun _ => pure ()) >>= fun _ => kk
theorem flat_t0 : compTurn (flatE n1 n2 n3 iter scope q1 q2 q3 a1 a2 a3 pos) 0 (.ref it) (.ref D) env =
    flatTurn (flatE n1 n2 n3 iter scope q1 q2 q3 a1 a2 a3 pos) 0 it D n1 q1 iter.pos (downBody (flatE n1 n2 n3 iter scope q1 q2 q3 a1 a2 a3 pos) (.Name n1 a1) 1 D env) env := by rfl
theorem flat_t1 : compTurn (flatE n1 n2 n3 iter scope q1 q2 q3 a1 a2 a3 pos) 1 (.ref it) (.ref D) env =
    flatTurn (flatE n1 n2 n3 iter scope q1 q2 q3 a1 a2 a3 pos) 1 it D n2 q2 a1 (downBody (flatE n1 n2 n3 iter scope q1 q2 q3 a1 a2 a3 pos) (.Name n2 a2) 2 D env) env := by rfl
theorem flat_t2 : compTurn (flatE n1 n2 n3 iter scope q1 q2 q3 a1 a2 a3 pos) 2 (.ref it) (.ref D) env =
    flatTurn (flatE n1 n2 n3 iter scope q1 q2 q3 a1 a2 a3 pos) 2 it D n3 q3 a2 (addBody (.Name n3 a3) D env) env := by rfl
end
section
variable {prog : Program} {w : World} {A : Around} {R : Result → Shared → Prop} {s : Shared} {n1 n2 n3 : Str} {iter : Expr} {scope : Scope} {q1 q2 q3 a1 a2 a3 pos : Pos} {it acc : Value} {env : Env}
theorem flat_s1 (h0 : codeAny (model prog w) A (.compLoop (flatE n1 n2 n3 iter scope q1 q2 q3 a1 a2 a3 pos) 1 it acc env) R s)
    (h : wpAny (model prog w) A (pyIter it) (fun it' s' => codeAny (model prog w) A (.compLoop (flatE n1 n2 n3 iter scope q1 q2 q3 a1 a2 a3 pos) 1 it' acc env) R s') (notedBy (model prog w) A env fun x s' => R (.error x) s') s) :
    codeAny (model prog w) A (.compStart (flatE n1 n2 n3 iter scope q1 q2 q3 a1 a2 a3 pos) 1 it acc env) R s := by
  apply codeAny_of_tree
  show wpAny _ _ ((compStart (flatE n1 n2 n3 iter scope q1 q2 q3 a1 a2 a3 pos) 1 it acc env).onRaise (fun x => do noteFrame x env; standAt theWindowsPlace)) _ _ s
  apply wpAny_notedAt
  unfold compStart
  show wpAny _ _ (ask >>= _) _ _ s
  refine wpAny_bind (wpAny_askSetting (wpAny_ite ?_))
  split
  · first | exact wpAny_pure (And.intro rfl h0) | exact wpAny_bind (wpAny_pure (wpAny_pure (And.intro rfl h0)))
  · refine wpAny_bind (wpAny_rule ?_)
    show wpAny _ _ (standAt a1 >>= _) _ _ s
    exact wpAny_bind (wpAny_standAt (wpAny_bind (wpAny_mono h (fun it' s' h' => wpAny_pure (And.intro rfl h')) fun _ _ x => x)))
theorem flat_s2 (h0 : codeAny (model prog w) A (.compLoop (flatE n1 n2 n3 iter scope q1 q2 q3 a1 a2 a3 pos) 2 it acc env) R s)
    (h : wpAny (model prog w) A (pyIter it) (fun it' s' => codeAny (model prog w) A (.compLoop (flatE n1 n2 n3 iter scope q1 q2 q3 a1 a2 a3 pos) 2 it' acc env) R s') (notedBy (model prog w) A env fun x s' => R (.error x) s') s) :
    codeAny (model prog w) A (.compStart (flatE n1 n2 n3 iter scope q1 q2 q3 a1 a2 a3 pos) 2 it acc env) R s := by
  apply codeAny_of_tree
  show wpAny _ _ ((compStart (flatE n1 n2 n3 iter scope q1 q2 q3 a1 a2 a3 pos) 2 it acc env).onRaise (fun x => do noteFrame x env; standAt theWindowsPlace)) _ _ s
  apply wpAny_notedAt
  unfold compStart
  show wpAny _ _ (ask >>= _) _ _ s
  refine wpAny_bind (wpAny_askSetting (wpAny_ite ?_))
  split
  · first | exact wpAny_pure (And.intro rfl h0) | exact wpAny_bind (wpAny_pure (wpAny_pure (And.intro rfl h0)))
  · refine wpAny_bind (wpAny_rule ?_)
    show wpAny _ _ (standAt a2 >>= _) _ _ s
    exact wpAny_bind (wpAny_standAt (wpAny_bind (wpAny_mono h (fun it' s' h' => wpAny_pure (And.intro rfl h')) fun _ _ x => x)))
end
end Sg
set_option Elab.async false
set_option linter.all false
set_option maxRecDepth 100000
set_option maxHeartbeats 4000000
namespace Sg
open PySem PySem.Spec PyProof.Rows L2
/-- cells are tuples; xs are all their items -/
inductive FlatL (K : PySem.W.Frag) (H : Hp) : List V → List V → Prop
  | nil : FlatL K H [] []
  | cons {a : Addr} {ys cells xs : List V} : SqT K H a ys → FlatL K H cells xs → FlatL K H (.ref a :: cells) (ys ++ xs)
/-- rows are tuples of tuples; xs are all the items of these -/
inductive FlatR (K : PySem.W.Frag) (H : Hp) : List V → List V → Prop
  | nil : FlatR K H [] []
  | cons {a : Addr} {cells ys rows xs : List V} : SqT K H a cells → FlatL K H cells ys → FlatR K H rows xs → FlatR K H (.ref a :: rows) (ys ++ xs)
section
variable {K : PySem.W.Frag} {H : Hp}
theorem FlatL.snoc {a : Addr} {ys : List V} (h : SqT K H a ys) : ∀ {cells xs : List V}, FlatL K H cells xs → FlatL K H (cells ++ [.ref a]) (xs ++ ys)
  | _, _, .nil => by have z := FlatL.cons h .nil; rwa [List.append_nil] at z
  | _, _, .cons h1 r => by rw [List.append_assoc]; exact .cons h1 (FlatL.snoc h r)
theorem FlatR.snoc {a : Addr} {cells ys : List V} (h : SqT K H a cells) (hl : FlatL K H cells ys) : ∀ {rows xs : List V}, FlatR K H rows xs → FlatR K H (rows ++ [.ref a]) (xs ++ ys)
  | _, _, .nil => by have z := FlatR.cons h hl .nil; rwa [List.append_nil] at z
  | _, _, .cons h1 h2 r => by rw [List.append_assoc]; exact .cons h1 h2 (FlatR.snoc h hl r)
theorem FlatL.same {H' : Hp} (e : Same H H') : ∀ {cells xs : List V}, FlatL K H cells xs → FlatL K H' cells xs
  | _, _, .nil => .nil
  | _, _, .cons h r => .cons (h.imp (fun z => z.imp (e _ _) fun ⟨o, z⟩ => ⟨o, e _ _ z⟩) id) (FlatL.same e r)
theorem FlatR.same {H' : Hp} (e : Same H H') : ∀ {rows xs : List V}, FlatR K H rows xs → FlatR K H' rows xs
  | _, _, .nil => .nil
  | _, _, .cons h l r => .cons (h.imp (fun z => z.imp (e _ _) fun ⟨o, z⟩ => ⟨o, e _ _ z⟩) id) (FlatL.same e l) (FlatR.same e r)
theorem sqT_new {D a : Addr} {o : HO} {ys : List V} (n : H D = none) (h : SqT K H a ys) : SqT K (upd H D o) a ys :=
  h.imp (fun z => z.imp (fun z => by rw [upd_ne (ne_of_none z n)]; exact z) fun ⟨u, z⟩ => ⟨u, by rw [upd_ne (ne_of_none z n)]; exact z⟩) id
end
section
variable {Z : Cx} {n1 n2 n3 : Str} {iter : Expr} {scope : Scope} {q1 q2 q3 a1 a2 a3 pos : Pos} {k1 k2 k3 : Nat}
/-- what the block says of its names -/
structure FlatN (Z : Cx) (n1 n2 n3 : Str) (k1 k2 k3 : Nat) : Prop where
  xe : Z.xe = fun _ _ => False
  calm : Z.calm = true
  nd : Z.N.Nodup
  h1 : Z.N[k1]? = some n1
  h2 : Z.N[k2]? = some n2
  h3 : Z.N[k3]? = some n3
  l1 : Z.env.scope.names.lookup n1 = some .local
  l2 : Z.env.scope.names.lookup n2 = some .local
  l3 : Z.env.scope.names.lookup n3 = some .local
  d1 : (n1 == ("__debug__" : Str)) = false
  d2 : (n2 == ("__debug__" : Str)) = false
  d3 : (n3 == ("__debug__" : Str)) = false
  c1 : (n1 == ("__classdict__" : Str)) = false
  c2 : (n2 == ("__classdict__" : Str)) = false
  c3 : (n3 == ("__classdict__" : Str)) = false
/-- the innermost loop -/
theorem flat_in (B : FlatN Z n1 n2 n3 k1 k2 k3) {pins : List (Addr × Obj)} {σ : L2.St} {H : Hp} {s : Shared} {R : Result → Shared → Prop} {it D c : Addr} {acc xs : List V}
    (hn : H D = none) (hc : SqT Z.K H c xs) (hz : acc.length + xs.length ≤ 1000000) (I : Inv Z pins σ (upd H D (.lst acc)) s) (st : s.heap.IsTupleIter it c 0) (hit : (upd H D (.lst acc)) it = none)
    (hfp : ∀ H, H it = none → FpOk Z pins H it)
    (fin : ∀ s' σ', Inv Z pins σ' (upd H D (.lst (acc ++ xs))) s' → Ag [k3] σ σ' → R (.ok .next) s') :
    codeAny (model Z.prog Z.w) Z.A (.compLoop (flatE n1 n2 n3 iter scope q1 q2 q3 a1 a2 a3 pos) 2 (.ref it) (.ref D) Z.env) R s := by
  refine flat_loop B.xe B.calm B.nd flat_t2 B.h3 (.inl B.l3) (.inr B.l3) (List.mem_singleton.mpr rfl) σ (fun i H' => H' = upd H D (.lst (acc ++ xs.take i)))
    (fun i H' _ e => by rw [e]; exact sqT_new hn hc) hfp (fun i x s1 σ1 H1 hx e hi I1 hk ag kk Qf Ef cont => ?_) (fun s' σ' H' I' ag e => ?_) I (Ag.refl _ _) (by rw [List.take_zero, List.append_nil]) hit st
  · subst e
    have ev := (pe_var (pos := a3) (X := Z) B.h3 (.inl B.l3) B.d3 B.c3).run _ s1 σ1 _ (fun v H2 => v = x ∧ H2 = upd H D (.lst (acc ++ xs.take i))) I1 ⟨x, hk, rfl, rfl⟩
    rw [B.xe] at ev
    refine wpAny_bind (wpAny_bind (thnF ev ?_))
    rintro u s2 ⟨v, H2, I2, r2, rfl, rfl⟩
    have lt : (acc ++ xs.take i).length < sizeLine := by
      have h4 : sizeLine = 16777216 := sizeLine_eq
      rw [List.length_append, List.length_take]
      have := Nat.min_le_right i xs.length
      omega
    refine wpAny_bind (app_ok (X := Z) I2 upd_same lt r2 fun s3 I3 => wpAny_pure ?_)
    rw [upd_upd] at I3
    refine cont s3 σ1 _ I3 ag ?_
    rw [List.take_add_one, hx, List.append_assoc]
    rfl
  · subst e
    rw [List.take_length] at I'
    exact fin s' σ' I' ag
/-- down a level: name, iterator, loop -/
theorem flat_down {pins : List (Addr × Obj)} {σ : L2.St} {H : Hp} {s : Shared} {c : Addr} {ys : List V} {nn : Str} {aa : Pos} {e : Expr} {d k : Nat} {D : Addr} {kk : Sem Fin} {Qf : Fin → Shared → Prop} {Ef : Value → Shared → Prop}
    (hxe : Z.xe = fun _ _ => False) (hN : Z.N[k]? = some nn) (hl : Z.env.scope.names.lookup nn = some .local) (hd : (nn == ("__debug__" : Str)) = false) (hcd : (nn == ("__classdict__" : Str)) = false)
    (I : Inv Z pins σ H s) (hk : σ[k]? = some (some (.ref c))) (hq : SqT Z.K H c ys)
    (go : ∀ s1 it, Inv Z pins σ H s1 → H it = none → (∀ H, H it = none → FpOk Z pins H it) → s1.heap.IsTupleIter it c 0 →
      codeAny (model Z.prog Z.w) Z.A (.compStart e d (.ref it) (.ref D) Z.env) (fun r s' => r = .ok .next ∧ wpAny (model Z.prog Z.w) Z.A kk Qf Ef s') s1) :
    wpAny (model Z.prog Z.w) Z.A (downBody e (.Name nn aa) d D Z.env kk) Qf Ef s := by
  have ev := (pe_var (pos := aa) (X := Z) hN (.inl hl) hd hcd).run _ s σ H (fun v H2 => v = .ref c ∧ H2 = H) I ⟨.ref c, hk, rfl, rfl⟩
  rw [hxe] at ev
  refine wpAny_bind (thnF ev ?_)
  rintro u s2 ⟨v, H2, I2, r2, rfl, rfl⟩
  obtain rfl : u = Value.ref c := r2
  refine wpAny_bind (wpAny_standAt (wpAny_bind (wpAny_of_eq (a := Value.ref c) rfl (wpAny_bind (wpAny_holding ?_)))))
  obtain ⟨its, rv, p, hz⟩ := I2.tuple hq
  refine wpAny_pyIter_tuple (show s2.heap.IsTuple c its.toArray from p) ?_
  refine wpAny_bind (wpAny_runOwn ?_)
  rw [Around.mark_none]
  have I3 : Inv Z pins σ H2 { s2 with heap := s2.heap.push { cls := .type "tuple_iterator", data := .fields #[.ref c, .int 0 0] } } := I2.kept (t' := s2.toks) fun b o e => Heap.get?_push_of_some _ e
  refine codeAny_mono (go _ s2.heap.objs.size I3 (I2.hok.fresh (Nat.le_refl _)) (fun H' h => I2.fpOk (Nat.le_refl _) h) ⟨_, Heap.get?_push_size _ rfl, rfl, rfl⟩) ?_
  rintro r s' ⟨rfl, hkk⟩
  exact hkk
/-- the middle loop -/
theorem flat_mid (B : FlatN Z n1 n2 n3 k1 k2 k3) {pins : List (Addr × Obj)} {σ : L2.St} {H : Hp} {s : Shared} {R : Result → Shared → Prop} {it D c : Addr} {acc cells xs : List V}
    (hn : H D = none) (hc : SqT Z.K H c cells) (hf : FlatL Z.K H cells xs) (hz : acc.length + xs.length ≤ 1000000) (I : Inv Z pins σ (upd H D (.lst acc)) s) (st : s.heap.IsTupleIter it c 0) (hit : (upd H D (.lst acc)) it = none)
    (hfp : ∀ H, H it = none → FpOk Z pins H it)
    (fin : ∀ s' σ', Inv Z pins σ' (upd H D (.lst (acc ++ xs))) s' → Ag [k2, k3] σ σ' → R (.ok .next) s') :
    codeAny (model Z.prog Z.w) Z.A (.compLoop (flatE n1 n2 n3 iter scope q1 q2 q3 a1 a2 a3 pos) 1 (.ref it) (.ref D) Z.env) R s := by
  refine flat_loop (ws := [k2, k3]) B.xe B.calm B.nd flat_t1 B.h2 (.inl B.l2) (.inr B.l2) (List.mem_cons_self) σ
    (fun i H' => ∃ pre suf ys zs, cells = pre ++ suf ∧ pre.length = i ∧ FlatL Z.K H pre ys ∧ FlatL Z.K H suf zs ∧ xs = ys ++ zs ∧ H' = upd H D (.lst (acc ++ ys)))
    (fun i H' _ ⟨_, _, _, _, _, _, _, _, _, e⟩ => by rw [e]; exact sqT_new hn hc) hfp (fun i x s1 σ1 H1 hx e hi I1 hk ag kk Qf Ef cont => ?_) (fun s' σ' H' I' ag e => ?_) I (Ag.refl _ _)
    ⟨[], cells, [], xs, rfl, rfl, .nil, hf, rfl, by rw [List.append_nil]⟩ hit st
  · obtain ⟨pre, suf, ys, zs, ec, el, f1, f2, ex, rfl⟩ := e
    cases f2 with
    | nil =>
      rw [ec, List.append_nil, ← el, List.getElem?_eq_none (Nat.le_refl _)] at hx
      exact nomatch hx
    | @cons b bs suf' zs' hb r =>
      have xb : x = .ref b := by
        rw [ec, ← el, List.getElem?_append_right (Nat.le_refl _), Nat.sub_self] at hx
        exact (Option.some.inj hx).symm
      subst xb
      have zl : acc.length + ys.length + bs.length ≤ 1000000 := by
        rw [ex, List.length_append, List.length_append] at hz
        omega
      refine flat_down B.xe B.h2 B.l2 B.d2 B.c2 I1 hk (sqT_new hn hb) fun s2 it2 I2 n2' fp2 st2 => ?_
      have loop : codeAny (model Z.prog Z.w) Z.A (.compLoop (flatE n1 n2 n3 iter scope q1 q2 q3 a1 a2 a3 pos) 2 (.ref it2) (.ref D) Z.env) (fun r s' => r = .ok .next ∧ wpAny (model Z.prog Z.w) Z.A kk Qf Ef s') s2 := by
        refine flat_in B hn hb (by rw [List.length_append]; exact zl) I2 st2 n2' fp2 fun s3 σ3 I3 ag3 => ⟨rfl, ?_⟩
        refine cont s3 σ3 _ I3 (ag.trans (ag3.mono (by simp))) ⟨pre ++ [.ref b], suf', ys ++ bs, zs', by rw [ec, List.append_assoc]; rfl, by rw [List.length_append, el]; rfl, FlatL.snoc hb f1, r, by rw [ex, List.append_assoc], by rw [List.append_assoc]⟩
      exact flat_s2 loop (wpAny_pyIter_tupleiter st2 loop)
  · obtain ⟨pre, suf, ys, zs, ec, el, f1, f2, ex, rfl⟩ := e
    have es : suf = [] := by
      have z := congrArg List.length ec
      rw [List.length_append, el] at z
      exact List.eq_nil_of_length_eq_zero (by omega)
    subst es
    cases f2
    rw [List.append_nil] at ex
    subst ex
    exact fin s' σ' I' ag
/-- the outer loop -/
theorem flat_out (B : FlatN Z n1 n2 n3 k1 k2 k3) {σ : L2.St} {H : Hp} {s : Shared} {R : Result → Shared → Prop} {it D c : Addr} {rows xs : List V}
    (hn : H D = none) (hc : SqT Z.K H c rows) (hf : FlatR Z.K H rows xs) (hz : xs.length ≤ 1000000) (I : Inv Z [] σ (upd H D (.lst [])) s) (st : s.heap.IsTupleIter it c 0) (hit : (upd H D (.lst [])) it = none)
    (hfp : ∀ H, H it = none → FpOk Z [] H it)
    (fin : ∀ s' σ', Inv Z [] σ' (upd H D (.lst xs)) s' → R (.ok .next) s') :
    codeAny (model Z.prog Z.w) Z.A (.compLoop (flatE n1 n2 n3 iter scope q1 q2 q3 a1 a2 a3 pos) 0 (.ref it) (.ref D) Z.env) R s := by
  refine flat_loop (ws := [k1, k2, k3]) B.xe B.calm B.nd flat_t0 B.h1 (.inl B.l1) (.inr B.l1) (List.mem_cons_self) σ
    (fun i H' => ∃ pre suf ys zs, rows = pre ++ suf ∧ pre.length = i ∧ FlatR Z.K H pre ys ∧ FlatR Z.K H suf zs ∧ xs = ys ++ zs ∧ H' = upd H D (.lst ys))
    (fun i H' _ ⟨_, _, _, _, _, _, _, _, _, e⟩ => by rw [e]; exact sqT_new hn hc) hfp (fun i x s1 σ1 H1 hx e hi I1 hk ag kk Qf Ef cont => ?_) (fun s' σ' H' I' ag e => ?_) I (Ag.refl _ _)
    ⟨[], rows, [], xs, rfl, rfl, .nil, hf, rfl, rfl⟩ hit st
  · obtain ⟨pre, suf, ys, zs, ec, el, f1, f2, ex, rfl⟩ := e
    cases f2 with
    | nil =>
      rw [ec, List.append_nil, ← el, List.getElem?_eq_none (Nat.le_refl _)] at hx
      exact nomatch hx
    | @cons b bcells bs suf' zs' hb hbl r =>
      have xb : x = .ref b := by
        rw [ec, ← el, List.getElem?_append_right (Nat.le_refl _), Nat.sub_self] at hx
        exact (Option.some.inj hx).symm
      subst xb
      have zl : ys.length + bs.length ≤ 1000000 := by
        rw [ex, List.length_append, List.length_append] at hz
        omega
      refine flat_down B.xe B.h1 B.l1 B.d1 B.c1 I1 hk (sqT_new hn hb) fun s2 it2 I2 n2' fp2 st2 => ?_
      have loop : codeAny (model Z.prog Z.w) Z.A (.compLoop (flatE n1 n2 n3 iter scope q1 q2 q3 a1 a2 a3 pos) 1 (.ref it2) (.ref D) Z.env) (fun r s' => r = .ok .next ∧ wpAny (model Z.prog Z.w) Z.A kk Qf Ef s') s2 := by
        refine flat_mid B hn hb hbl zl I2 st2 n2' fp2 fun s3 σ3 I3 ag3 => ⟨rfl, ?_⟩
        refine cont s3 σ3 _ I3 (ag.trans (ag3.mono (by simp))) ⟨pre ++ [.ref b], suf', ys ++ bs, zs', by rw [ec, List.append_assoc]; rfl, by rw [List.length_append, el]; rfl, FlatR.snoc hb hbl f1, r, by rw [ex, List.append_assoc], rfl⟩
      exact flat_s1 loop (wpAny_pyIter_tupleiter st2 loop)
  · obtain ⟨pre, suf, ys, zs, ec, el, f1, f2, ex, rfl⟩ := e
    have es : suf = [] := by
      have z := congrArg List.length ec
      rw [List.length_append, el] at z
      exact List.eq_nil_of_length_eq_zero (by omega)
    subst es
    cases f2
    rw [List.append_nil] at ex
    subst ex
    exact fin s' σ' I'
end
end Sg
set_option Elab.async false
set_option linter.all false
set_option maxRecDepth 100000
set_option maxHeartbeats 4000000
namespace Sg
open PySem PySem.Spec PyProof.Rows L2
/-- [c for a in e for b in a for c in b]: e a tuple of tuples of tuples -/
def tFlat (K : PySem.W.Frag) (te : TE) : TE := fun σ H Q => te σ H fun v H1 => ∃ t rows xs, v = .ref t ∧ SqT K H1 t rows ∧ FlatR K H1 rows xs ∧ xs.length ≤ 1000000 ∧
  ∀ D, H1 D = none → Q (.ref D) (upd H1 D (.lst xs))
section
variable {X : Cx} {n1 n2 n3 : Str} {iter : Expr} {scope : Scope} {q1 q2 q3 a1 a2 a3 pos : Pos} {k1 k2 k3 : Nat} {own : List (Str × Nat)} {te : TE}
theorem pe_flat (hc : X.calm = true) (hN : X.N.Nodup) (hi : PE X iter te) (ok : BlkOk X.N X.env.scope scope own)
    (h1 : X.N[k1]? = some n1) (h2 : X.N[k2]? = some n2) (h3 : X.N[k3]? = some n3)
    (l1 : ∀ (C : Addr) (cl : List (Str × Addr)), (compEnvC scope cl C X.env).scope.names.lookup n1 = some .local)
    (l2 : ∀ (C : Addr) (cl : List (Str × Addr)), (compEnvC scope cl C X.env).scope.names.lookup n2 = some .local)
    (l3 : ∀ (C : Addr) (cl : List (Str × Addr)), (compEnvC scope cl C X.env).scope.names.lookup n3 = some .local)
    (dd : ((n1 == ("__debug__" : Str)) || (n2 == ("__debug__" : Str)) || (n3 == ("__debug__" : Str)) || (n1 == ("__classdict__" : Str)) || (n2 == ("__classdict__" : Str)) || (n3 == ("__classdict__" : Str))) = false := by decide)
    (hs : ∀ x, foldedSetIterable iter X.env x = pure x := by intro _; rfl) :
    PE X (flatE n1 n2 n3 iter scope q1 q2 q3 a1 a2 a3 pos) (tFlat X.K te) := by
  simp only [Bool.or_eq_false_iff] at dd
  obtain ⟨⟨⟨⟨⟨d1, d2⟩, d3⟩, c1⟩, c2⟩, c3⟩ := dd
  constructor
  intro pins s σ H Q I h
  rw [eval_ListComp]
  have hfree : ∀ y ∈ scope.names, y.2 = .free → ∃ c, X.env.cells.lookup y.1 = some c := by
    intro y hy e
    cases ok.free y hy e with
    | inl k => exact I.ok.has _ (.inl k)
    | inr k => exact I.ok.has _ (.inr k)
  refine wpAny_comprehension_free (use := none) rfl hs (closure_ok hfree) ok.kind (fun y hy e => by rw [ok.uniq y hy, e]) (thn (hi.run pins s σ H _ I h) ?_)
  rintro xv s1 ⟨v, H1, I1, r1, t, rows, xs, rfl, hq, hf, hz, q⟩
  obtain rfl : xv = Value.ref t := r1
  obtain ⟨its, rv, p, hzz⟩ := I1.tuple hq
  refine wpAny_pyIter_tuple (show s1.heap.IsTuple t its.toArray from p) ?_
  generalize hs2 : ({ s1 with heap := s1.heap.push { cls := .type "tuple_iterator", data := .fields #[.ref t, .int 0 0] } } : Shared) = s2
  have I2 : Inv X pins σ H1 s2 := by
    rw [← hs2]
    exact I1.kept (t' := s1.toks) fun b o e => Heap.get?_push_of_some _ e
  generalize hit : s1.heap.objs.size = it
  have st2 : s2.heap.IsTupleIter it t 0 := by
    rw [← hs2, ← hit]
    exact ⟨_, Heap.get?_push_size _ rfl, rfl, rfl⟩
  have nn2 : H1 it = none := I1.hok.fresh (Nat.le_of_eq hit)
  have lt2 : it < s2.heap.objs.size := by
    obtain ⟨_, e, _⟩ := st2
    exact Heap.lt_size e
  have f2 : ∀ H', H' it = none → FpOk X pins H' it := fun H' hn => I1.fpOk (Nat.le_of_eq hit) hn
  refine wpAny_newObj_type (newEnv_comp ?_) (by show 0 ≤ sizeLine; decide)
  generalize hD : s2.heap.objs.size = D
  have hDn : H1 D = none := I2.hok.fresh (Nat.le_of_eq hD)
  generalize hs3 : ({ s2 with heap := s2.heap.push { cls := .type "list", data := .seq ([] : List Value).toArray } } : Shared) = s3
  have I3 : Inv X pins σ (upd H1 D (.lst [])) s3 := by
    rw [← hs3]
    refine I2.laid (t' := s2.toks) (fun b o e => Heap.get?_push_of_some _ e) (Nat.le_of_eq hD) ⟨Nat.zero_le _, [], 0, .nil, ?_⟩
    rw [← hD]
    exact Heap.get?_push_size _ rfl
  have k3' : ∀ b o, s2.heap.get? b = some o → s3.heap.get? b = some o := by
    intro b o e
    rw [← hs3]
    exact Heap.get?_push_of_some _ e
  have st3 : s3.heap.IsTupleIter it t 0 := st2.at fun o e => k3' it o e
  have lt3 : it < s3.heap.objs.size := by
    obtain ⟨_, e, _⟩ := st3
    exact Heap.lt_size e
  have nit : (upd H1 D (.lst [])) it = none := by
    rw [upd_ne (by rw [← hD]; exact Nat.ne_of_lt lt2)]
    exact nn2
  have I4 := block_start (fp := [it]) I3 ok hN (by
    intro b hb
    rw [List.mem_singleton.mp hb]
    exact ⟨f2 _ nit, lt3⟩)
  show codeAny _ _ (.compStart (flatE n1 n2 n3 iter scope q1 q2 q3 a1 a2 a3 pos) 0 (.ref it) (.ref D) (compEnvC scope (cellsFrom (s3.heap.objs.size + 1) scope.names (cloFrom X.env.cells scope.names [])) s3.heap.objs.size X.env))
    (compPost (model X.prog X.w) X.A X.xe none (EP X pins σ Q) (.ref D) s3.heap.objs.size) { s3 with heap := pushCells (s3.heap.push { cls := .type "dict", data := .dict #[] }) scope.names }
  have hl1 := l1 s3.heap.objs.size (cellsFrom (s3.heap.objs.size + 1) scope.names (cloFrom X.env.cells scope.names []))
  have hl2 := l2 s3.heap.objs.size (cellsFrom (s3.heap.objs.size + 1) scope.names (cloFrom X.env.cells scope.names []))
  have hl3 := l3 s3.heap.objs.size (cellsFrom (s3.heap.objs.size + 1) scope.names (cloFrom X.env.cells scope.names []))
  have cL : (compEnvC scope (cellsFrom (s3.heap.objs.size + 1) scope.names (cloFrom X.env.cells scope.names [])) s3.heap.objs.size X.env).locals = s3.heap.objs.size := rfl
  generalize compEnvC scope (cellsFrom (s3.heap.objs.size + 1) scope.names (cloFrom X.env.cells scope.names [])) s3.heap.objs.size X.env = ce at I4 hl1 hl2 hl3 cL ⊢
  have st4 : (pushCells (s3.heap.push { cls := .type "dict", data := .dict #[] }) scope.names).IsTupleIter it t 0 :=
    st3.at fun o e => pushCells_keeps _ _ _ _ (Heap.get?_push_of_some _ e)
  generalize hs4 : ({ s3 with heap := pushCells (s3.heap.push { cls := .type "dict", data := .dict #[] }) scope.names } : Shared) = s4 at I4 ⊢
  have st4' : s4.heap.IsTupleIter it t 0 := by rw [← hs4]; exact st4
  have B : FlatN (X.blk s3 (upd H1 D (.lst [])) scope ce [it]) n1 n2 n3 k1 k2 k3 := ⟨rfl, hc, hN, h1, h2, h3, hl1, hl2, hl3, d1, d2, d3, c1, c2, c3⟩
  have fpZ : ∀ H', H' it = none → FpOk (X.blk s3 (upd H1 D (.lst [])) scope ce [it]) [] H' it := by
    intro H' hn
    refine ⟨hn, (I4.ok.exf it (List.mem_singleton.mpr rfl)).1, I4.ok.exfs it (List.mem_singleton.mpr rfl), .inl (List.mem_singleton.mpr rfl), (I4.ok.exf it (List.mem_singleton.mpr rfl)).2, ?_⟩
    intro p hp
    have hp' : p ∈ ([] : List (Addr × Obj)) ++ [] := hp
    exact nomatch hp'
  have loop : codeAny (model X.prog X.w) X.A (.compLoop (flatE n1 n2 n3 iter scope q1 q2 q3 a1 a2 a3 pos) 0 (.ref it) (.ref D) ce)
      (compPost (model X.prog X.w) X.A X.xe none (EP X pins σ Q) (.ref D) s3.heap.objs.size) s4 := by
    refine flat_out B hDn hq hf hz I4 st4' nit fpZ ?_
    intro s' σ' I5
    have I6 : Inv X pins σ (upd H1 D (.lst xs)) s' := by
      refine I3.call' (ch := [it]) I5.os I5.base I5.hok I5.bare ?_
      intro b hb
      rw [List.mem_singleton.mp hb]
      obtain ⟨_, g1, g2, g3, g4, g5⟩ := f2 _ nit
      exact ⟨g3, g1, g4, g5⟩
    have nC : (upd H1 D (.lst xs)) s3.heap.objs.size = none := by
      have z : (upd H1 D (.lst xs)) ce.locals = none := I5.free
      rw [cL] at z
      exact z
    obtain ⟨m, hn, _⟩ := I5.loc
    have hn' : s'.heap.Ns ce.locals m := hn
    rw [cL] at hn'
    refine ⟨m, hn', ?_⟩
    intro h'' sb
    obtain ⟨f0, f1, f2', f3, f4, f5⟩ := I3.fpOk (Nat.le_refl _) nC
    exact ⟨.ref D, _, I6.turned (t' := s'.toks) (fun b o hb e => (sb.2 b hb).trans e) f0 f1 f3 f4 f5, rfl, q D hDn⟩
  exact codeAny_compStart_list loop (wpAny_pyIter_tupleiter st4' loop)
end
end Sg
set_option Elab.async false
set_option linter.all false
set_option maxRecDepth 100000
set_option maxHeartbeats 4000000
namespace Sg
open PySem PySem.Spec PyProof.Rows L2
/-! ## max with a default -/
section
variable {X : Cx}
theorem cr_maxD (hc : X.calm = true) {j : Nat} (hr : Room j X.A) : CallRK X (.builtin "max") ["default"] (fun vs zs H Q => ∃ (a : Addr) (ns : List Int) (d : Int), vs = [.ref a] ∧ zs = [.int d] ∧ SqL X.K H a (ns.map V.int) ∧
    ∀ m : Int, (ns = [] → m = d) → (ns ≠ [] → m ∈ ns ∧ ∀ x ∈ ns, x ≤ m) → Q (.int m) H) := by
  intro pins s σ H xs zs us ws Q I r rz h
  obtain ⟨a, ns, d, rfl, rfl, hs, q⟩ := h
  obtain ⟨u, rfl, rfl⟩ := vals1 r
  obtain ⟨dv, rfl, td, rfl⟩ := vals1 rz
  obtain ⟨its, rv, hl, hzz⟩ := I.list hs
  have dp : DpAll X.K H (ns.map V.int) (ns.map PyData.int) := by
    clear hs q rv hl hzz
    induction ns with
    | nil => exact .nil
    | cons x r ih => exact .cons (.int x) ih
  obtain ⟨as, rd⟩ := Dp.readsAll I (ns.map PyData.int) _ its dp rv
  have al : PySem.W.AlikeAll (ns.map PyData.int) := by
    constructor
    · intro x hx y hy
      obtain ⟨i, _, rfl⟩ := List.mem_map.mp hx
      obtain ⟨j, _, rfl⟩ := List.mem_map.mp hy
      rfl
    · intro x hx z
      obtain ⟨i, _, rfl⟩ := List.mem_map.mp hx
      exact nomatch z
  have dep : PyData.depthAll (ns.map PyData.int) = 0 := by
    clear hs q rv hl rd al dp hzz
    induction ns with
    | nil => rfl
    | cons x r ih =>
      show max (PyData.depth (.int x)) (PyData.depthAll (r.map PyData.int)) = 0
      rw [ih]; rfl
  have hu := hr.units
  refine PySem.W.max_list_default (I.ok.hd hc) hl.isList (by simpa using rd) al (by rw [dep]; omega) (fun e h' tk hk => ?_) (fun y ys i v h' tk bs e hv hrd hk => ?_)
  · exact ⟨.int d, H, I.kept hk, ⟨_, rfl⟩, q d (fun _ => rfl) (fun z => absurd (List.map_eq_nil_iff.mp e) z)⟩
  · cases ns with
    | nil => exact nomatch e
    | cons n ns' =>
      obtain ⟨e1, e2⟩ := List.cons.inj e
      subst e1 e2
      rw [PySem.W.maxD_ints] at hrd
      cases hrd
      refine ⟨.int _, H, I.kept hk, ⟨_, rfl⟩, q _ (fun z => nomatch z) (fun _ => ?_)⟩
      have key : ∀ (l : List Int) (a : Int), (l.foldl max a = a ∨ l.foldl max a ∈ l) ∧ a ≤ l.foldl max a ∧ ∀ x ∈ l, x ≤ l.foldl max a := by
        intro l
        induction l with
        | nil => intro a; exact ⟨.inl rfl, Int.le_refl _, fun x hx => nomatch hx⟩
        | cons b l ih =>
          intro a
          obtain ⟨g1, g2, g3⟩ := ih (max a b)
          refine ⟨?_, by show a ≤ l.foldl max (max a b); omega, fun x hx => ?_⟩
          · show l.foldl max (max a b) = a ∨ l.foldl max (max a b) ∈ b :: l
            rcases g1 with g | g
            · rcases Int.le_total a b with z | z
              · right; rw [g, Int.max_eq_right z]; exact List.mem_cons_self
              · left; rw [g, Int.max_eq_left z]
            · exact .inr (List.mem_cons_of_mem _ g)
          · show x ≤ l.foldl max (max a b)
            rcases List.mem_cons.mp hx with rfl | z
            · omega
            · exact g3 x z
      obtain ⟨g1, g2, g3⟩ := key ns' n
      refine ⟨?_, fun x hx => ?_⟩
      · rcases g1 with g | g
        · rw [g]; exact List.mem_cons_self
        · exact List.mem_cons_of_mem _ g
      · rcases List.mem_cons.mp hx with rfl | z
        · exact g2
        · exact g3 x z
end
/-! ## operators of one's own -/
section
variable {X : Cx} {k : Nat} {C g : Addr} {fd : FuncData} {ps : List Str} {sp : Sp}
/-- an instance of C -/
def InsAt (H : Hp) (C a : Addr) : Prop := ∃ dx fs, H a = some (.ins C dx fs)
theorem insAt_look {pins : List (Addr × Obj)} {σ : L2.St} {H : Hp} {s : Shared} {a : Addr} (I : Inv X pins σ H s) (h : InsAt H C a) : ∃ ox od, PySem.W.InstAt s.heap a ox C od := by
  obtain ⟨dx, fs, h⟩ := h
  obtain ⟨mA, O, _⟩ := ins_get I.hok h
  obtain ⟨od, J, _⟩ := O.look
  exact ⟨_, _, J⟩
/-- a def called one C frame further in -/
theorem run_in1 {pins : List (Addr × Obj)} {σ : L2.St} {H : Hp} {s : Shared} {Q : VK} {us : List Value} {vs : List V} (F : FnOk X.prog X.w X.K X.mg X.base CX0 k g fd ps sp) (hr : Room (k + 1) X.A) (hb : Binds X.K fd ps [])
    (I : Inv X pins σ H s) (r : Vals vs us) (h : sp vs H Q E0) {E : Value → Shared → Prop} : wpAny (model X.prog X.w) X.A.in1 (call (.ref g) us) (EP X pins σ Q) E s := by
  have hl : (us ++ []).length = ps.length := by rw [List.append_nil, ← r.length]; exact F.len _ _ _ _ h
  have hbb := hb s us I.kIn hl
  rw [List.append_nil] at hbb
  refine wpAny_call (codeAny_mono (F.run X.A.in1 X.stack s H ⟨us, []⟩ us vs Q E0 hr.in1 I.env0.in1 hbb r h) ?_)
  intro r' s' hq
  match r', hq with
  | .error _, hq => exact hq.elim
  | .ok (.ret _), hq => exact I.after hq
  | .ok .next, hq => exact hq.elim
  | .ok .brk, hq => exact hq.elim
  | .ok .cont, hq => exact hq.elim
/-- len(a) -/
theorem call_lenO (F : FnOk X.prog X.w X.K X.mg X.base CX0 k g fd ps sp) (hr : Room (k + 1) X.A) (hb : Binds X.K fd ps []) (hs : PySem.W.findIn X.K (.ref C) "__len__" = some (some (.ref g))) (hf : PySem.W.isFn X.K (.ref g) = true) :
    CallR X (.builtin "len") (fun xs H Q => ∃ a, xs = [.ref a] ∧ InsAt H C a ∧ sp [.ref a] H (fun v H' => ∃ n : Nat, v = .int n ∧ n < 1000000 ∧ Q (.int n) H') E0) := by
  intro pins s σ H xs us Q I r h
  obtain ⟨a, rfl, ha, h⟩ := h
  obtain ⟨u, rfl, rfl⟩ := vals1 r
  obtain ⟨m, hF⟩ := I.fr
  obtain ⟨_, _, J⟩ := insAt_look I ha
  refine PySem.W.len_K hF I.ok.mod.kin J hs hf (thn (run_in1 (us := [.ref a]) (vs := [.ref a]) F hr hb I (.cons rfl .nil) h) ?_)
  rintro v s' ⟨x, H', I', rx, n, rfl, hn, q⟩
  obtain ⟨t, rfl⟩ := rx
  exact ⟨⟨by omega, by omega⟩, ⟨.int n, H', I'.tok _, ⟨_, rfl⟩, q⟩⟩
/-- the same as an FnR -/
theorem fnR_of {P : Program} {w : World} {K : PySem.W.Frag} {mg : Str → Option Value} {base : Heap} (F : FnOk P w K mg base CX0 k g fd ps sp) (hb : Binds K fd ps []) : FnR P w K mg base CX0 k g sp := by
  intro A outer s H us vs Q E hr e0 r h
  have hl : (us ++ []).length = ps.length := by rw [List.append_nil, ← r.length]; exact F.len _ _ _ _ h
  have KX : K.In s.heap := e0.mod.kin.keeps fun b o e => (e0.bs b o e).1
  have hbb := hb s us KX hl
  rw [List.append_nil] at hbb
  exact F.run A outer s H ⟨us, []⟩ us vs Q E hr e0 hbb r h
end
end Sg
set_option Elab.async false
set_option linter.all false
set_option maxRecDepth 100000
set_option maxHeartbeats 4000000
set_option Elab.async false
set_option linter.all false
set_option maxRecDepth 100000
set_option maxHeartbeats 4000000
namespace Sg
open PySem PySem.Spec PyProof.Rows L2 HT
/-! ## t[::-1] of a tuple -/
section
variable {prog : Program} {w : World} {A : Around} {E : Value → Shared → Prop} {s : Shared}
theorem slicePlaces_rev (n : Nat) : Builtin.Slice.slicePlaces ((n : Int) - 1) (-1) (-1) = n := by
  unfold Builtin.Slice.slicePlaces
  have h1 : ¬ ((-1 : Int) > 0) := by omega
  simp only [h1, if_false, Int.neg_neg, Int.ediv_one]
  split <;> omega
theorem sliceApplied_rev {sl : Addr} {vl vu vs : Value} {n : Nat} {Q : Int × Int × Nat → Shared → Prop} (hs : s.heap.IsSliceOf sl vl vu vs) (pl : IsPart vl none) (pu : IsPart vu none) (ps : IsPart vs (some (-1)))
    (h : Q ((n : Int) - 1, -1, n) s) : wpAny (model prog w) A (Builtin.Slice.sliceApplied (.ref sl) (pure (n : Int))) Q E s := by
  obtain ⟨os, hos, hcs, hds⟩ := id hs
  unfold Builtin.Slice.sliceApplied Builtin.Slice.sliceFields
  refine wpAny_bind (wpAny_bind (wpAny_field hos hds (x := vl) rfl (wpAny_bind (wpAny_field hos hds (x := vu) rfl (wpAny_bind (wpAny_field hos hds (x := vs) rfl (wpAny_pure ?_)))))))
  refine wpAny_bind (slicePart_ ps ?_)
  show wpAny _ _ (if ((-1 : Int) == 0) = true then _ else _) _ _ s
  rw [if_neg (by decide)]
  refine wpAny_bind (slicePart_ pl (wpAny_bind (slicePart_ pu (wpAny_bind (wpAny_pure ?_)))))
  show wpAny _ _ (pure ((n : Int) - 1, (-1 : Int), Builtin.Slice.slicePlaces ((n : Int) - 1) (-1) (-1))) _ _ s
  rw [slicePlaces_rev]
  exact wpAny_pure h
theorem filterMap_on {α β : Type} {f g : α → Option β} : ∀ {l : List α}, (∀ x ∈ l, f x = g x) → l.filterMap f = l.filterMap g
  | [], _ => rfl
  | x :: r, h => by
    rw [List.filterMap_cons, List.filterMap_cons, h x List.mem_cons_self, filterMap_on fun y hy => h y (List.mem_cons_of_mem _ hy)]
theorem pick_rev (xs : Array Value) : ((List.range xs.size).filterMap fun (m : Nat) => xs[(((xs.size : Int) - 1) + (m : Int) * (-1)).toNat]?).toArray = xs.toList.reverse.toArray := by
  have e1 : ∀ m ∈ List.range xs.size, xs[(((xs.size : Int) - 1) + (m : Int) * (-1)).toNat]? = xs[xs.size - 1 - m]? := by
    intro m hm
    have := List.mem_range.mp hm
    rw [show (((xs.size : Int) - 1) + (m : Int) * (-1)).toNat = xs.size - 1 - m from by omega]
  have e2 : ((List.range xs.size).map fun k => xs.size - 1 - k).filterMap (xs[·]?) = xs.toList.reverse := by
    rw [PySem.W.krv_range, List.filterMap_reverse, PySem.W.krv_all]
  rw [List.filterMap_map] at e2
  rw [← e2]
  congr 1
  exact filterMap_on (fun m hm => e1 m hm)
theorem getItem_tuple_rev {t sl : Addr} {items : Array Value} {vl vu vs : Value} {Q : Value → Shared → Prop} (ht : IsTup s.heap t items) (hs : s.heap.IsSliceOf sl vl vu vs) (pl : IsPart vl none) (pu : IsPart vu none) (ps : IsPart vs (some (-1)))
    (h : Q (.ref s.heap.objs.size) { s with heap := s.heap.push { cls := .type "tuple", data := .seq items.toList.reverse.toArray } })
    (hsz : items.size ≤ sizeLine) : wpAny (model prog w) A (getItem (.ref t) (.ref sl)) Q E s := by
  have htake : sizeOk (.seq items.toList.reverse.toArray) := by
    show items.toList.reverse.toArray.size ≤ sizeLine
    rw [List.size_toArray, List.length_reverse, Array.length_toList]
    exact hsz
  obtain ⟨os, hos, hcs, hds⟩ := id hs
  have hTs : s.TypeIs (.ref sl) "slice" := ⟨os, hos, hcs⟩
  unfold getItem
  try with_reducible refine wpAny_holding ?_
  first | refine wpAny_bind (wpAny_pure ?_) | skip
  refine wpAny_bind (wpAny_sequenceKey ht.typeIs (by decide) ?_)
  refine wpAny_bind (wpAny_callSpecial?_slot (name := Str.ofString "__getitem__") ht.typeIs PyProof.Rows.slot_tuple_getitem
    (wpAny_call_entry PyProof.Rows.slot_tuple_getitem ht.typeIs entry_tuple_getitem ?_ (args_tuple_getitem _ _)))
  show wpAny _ _ (Builtin.Tuple.tupleItemsOf (.ref t) >>= _) _ _ s
  refine wpAny_bind (tupleItemsOf_ ht ?_)
  refine wpAny_bind (wpAny_typeOf hTs ?_)
  rw [if_pos (by decide)]
  refine wpAny_bind (sliceApplied_rev hs pl pu ps ?_)
  have hno : ¬ ((((items.size : Int) - 1) == 0 && (-1 : Int) == 1 && items.size == items.size) = true) := by
    rw [show ((-1 : Int) == 1) = false from by decide, Bool.and_false, Bool.false_and]
    exact Bool.false_ne_true
  show wpAny _ _ (if (((items.size : Int) - 1) == 0 && (-1 : Int) == 1 && items.size == items.size) = true then _ else _) _ _ s
  rw [if_neg hno, pick_rev]
  first
    | exact wpAny_bind (m := Builtin.Tuple.tupleExact _) (wpAny_newObj_type (wpAny_pure ⟨_, rfl, wpAny_pure h⟩) htake)
    | exact wpAny_bind (m := Builtin.Tuple.tupleExact _) (wpAny_newObj_type (wpAny_bind (wpAny_pure (wpAny_pure ⟨_, rfl, wpAny_pure h⟩))) htake)
    | exact wpAny_bind (wpAny_bind (m := Builtin.Tuple.tupleExact _) (wpAny_newObj_type (wpAny_pure (wpAny_pure ⟨_, rfl, wpAny_pure h⟩)) htake))
    | exact wpAny_bind (wpAny_bind (m := Builtin.Tuple.tupleExact _) (wpAny_newObj_type (wpAny_pure ⟨_, rfl, wpAny_pure h⟩) htake))
end
def tRevT (K : PySem.W.Frag) (te : TE) : TE := fun σ H Q => te σ H fun x H1 => ∃ a xs, x = .ref a ∧ SqT K H1 a xs ∧ ∀ p, H1 p = none → Q (.ref p) (upd H1 p (.tup xs.reverse))
theorem pe_revT {X : Cx} {K : PySem.W.Frag} {e : Expr} {te : TE} {k : Nat} {p1 p2 p3 pos : Pos} (hK : X.K = K) (he : PE X e te) : PE X (.Subscript e (.Slice none none (some (.UnaryOp .USub (.Constant (.int 1) k p1) p2)) p3) pos) (tRevT K te) := by
  subst hK
  refine ⟨fun pins s σ H Q I h => ?_⟩
  refine Subscript_ (thn (he.run pins s σ H _ I h) fun v s1 ⟨x, H1, I1, r1, q1⟩ => ?_)
  obtain ⟨a, xs, ex, hx, q⟩ := q1
  subst ex
  cases r1
  have hst : PO X (some (.UnaryOp .USub (.Constant (.int 1) k p1) p2)) (tPart (tUn (rU fun i => .int (-i)) (tC (.int 1)))) := po_some (pe_un un_neg pe_int)
  refine wpAny_Slice (thn (po_none.run pins s1 σ H1 (fun o H2 => o = none ∧ H2 = H1) I1 ⟨rfl, rfl⟩) fun vl s2 ⟨l, H2, I2, pl, el, e2⟩ => ?_)
  subst el e2
  refine thn (po_none.run pins s2 σ H2 (fun o H3 => o = none ∧ H3 = H2) I2 ⟨rfl, rfl⟩) fun vu s3 ⟨u, H3, I3, pu, eu, e3⟩ => ?_
  subst eu e3
  refine thn (hst.run pins s3 σ H3 (fun o H4 => o = some (-1) ∧ H4 = H3) I3 ⟨1, rfl, -1, rfl, rfl, rfl⟩) fun vs s4 ⟨o, H4, I4, ps, eo, e4⟩ => ?_
  subst eo e4
  have I5 : Inv X pins σ H4 { s4 with heap := s4.heap.push { cls := .type "slice", data := .fields #[vl, vu, vs] } } := I4.kept (t' := s4.toks) fun b ob q => Heap.get?_push_of_some _ q
  obtain ⟨its, r, ht, hz⟩ := I5.tuple hx
  have hlen := r.length
  show wpAny (model X.prog X.w) X.A (subscriptTail e (.Slice none none (some (.UnaryOp .USub (.Constant (.int 1) k p1) p2)) p3) (.ref a) (.ref s4.heap.objs.size)) (EP X pins σ Q) X.xe { s4 with heap := s4.heap.push { cls := .type "slice", data := .fields #[vl, vu, vs] } }
  refine tail_any (ops := [.ref a, .ref s4.heap.objs.size]) ht.typeIs PyProof.Rows.slot_tuple_getitem.lookup ?_ (by with_unfolding_all rfl)
  refine getItem_tuple_rev ht (Heap.IsSliceOf.new _ vl vu vs) pl pu ps ?_ (by rw [List.size_toArray]; omega)
  refine ⟨.ref _, _, I5.laid (t' := s4.toks) (o := .tup xs.reverse) (fun b ob q => Heap.get?_push_of_some _ q) (Nat.le_refl _) ?_, rfl, q _ (I5.hok.fresh (Nat.le_refl _))⟩
  exact ⟨by rw [List.length_reverse]; exact hz, _, r.reverse, IsTup.new _ _⟩
end Sg
set_option Elab.async false
set_option linter.all false
set_option maxRecDepth 100000
set_option maxHeartbeats 4000000
namespace Sg
open PySem PySem.Spec PyProof.Rows L2
/-! ## d.setdefault(t, v), t a tuple of ints and texts -/
def rSetdT : V → List V → Hp → VK → Prop := fun x xs H Q => ∃ (a : Addr) (kvs : List (List L2.Key × V)) (k : List L2.Key) (b : Addr) (d : V), x = .ref a ∧ xs = [.ref b, d] ∧ H a = some (.dT kvs) ∧ H b = some (.tup (k.map kV)) ∧ kvs.length < sizeLine ∧
  (∀ v, valV kvs k = some v → Q v H) ∧ (valV kvs k = none → Q d (upd H a (.dT (putK kvs k d))))
theorem mt_setdT {X : Cx} (hu : X.A.units + 1 < cLine) : MtR X "dict.setdefault" rSetdT := by
  intro pins s σ H x xs v us Q I rx rxs h
  obtain ⟨a, kvs, k, b, d, rfl, rfl, ha, hb, hl, q1, q2⟩ := h
  cases rx
  obtain ⟨u1, u2, rfl, r1, r2⟩ := vals2 rxs
  cases r1
  obtain ⟨z, hd, xs', rel, dd⟩ := dt_of I.hok ha
  have hz : xs'.length ≤ sizeLine := by rw [← Paired.length rel]; exact z
  refine call_meetsIn PySem.F.slot_dict_setdefault dd.typeIs PySem.F.entry_dict_setdefault (PySem.F.args_dict_setdefault_3 _ _ _) (meetsH_dict_setdefault (tupleKind (mixKind X.prog X.w)) a b hd u2)
    ⟨tupleKind_room_in1 hu, k, xs', key_of I.hok hb, dd, hz, fun p hp => ?_, fun hn h' dd' hs => ?_⟩
  · have r := rel.val k
    rw [hp] at r
    obtain ⟨v0, ev, rv⟩ : ∃ v0, valV kvs k = some v0 ∧ RelV v0 p.2 := by
      cases ev : valV kvs k with
      | none =>
        rw [ev] at r
        exact (show False from r).elim
      | some v0 =>
        rw [ev] at r
        exact ⟨v0, rfl, r⟩
    exact ⟨v0, H, I.tok _, rv, q1 v0 ev⟩
  · have r := rel.val k
    rw [hn] at r
    have e : valV kvs k = none := by
      cases ev : valV kvs k with
      | none => rfl
      | some v0 =>
        rw [ev] at r
        exact (show False from r).elim
    have hl2 : (putK kvs k d).length ≤ sizeLine := by
      have := length_putK kvs k d
      omega
    obtain ⟨o, es, ep, hq, h2, h3, h4, _, h5⟩ := dd'
    refine ⟨d, _, ?_, r2, q2 e⟩
    exact d_write I (by rw [ha]; exact True.intro) hs ⟨o, hq⟩ ⟨hl2, hd, _, (rel.put k hb r2).keeps (fun c ys ec => (by rw [upd_ne (ne_of ec ha (fun z => nomatch z))]; exact ec)), o, es, ep, hq, h2, h3, h4, h5⟩
end Sg
set_option Elab.async false
set_option linter.all false
set_option maxRecDepth 100000
set_option maxHeartbeats 4000000
namespace Sg
open PySem PySem.Spec PyProof.Rows L2
/-! ## for k, v in d.items(), d with tuples as keys -/
theorem pair_at {α β : Type} {G : α → β → Prop} : ∀ {l : List α} {m : List β}, Paired G l m → ∀ {i : Nat} {x : α}, l[i]? = some x → ∃ y, m[i]? = some y ∧ G x y
  | _, _, .nil, i, x, e => nomatch e
  | _, _, .cons r t, 0, x, e => by
    cases e
    exact ⟨_, rfl, r⟩
  | _, _, .cons r t, i + 1, x, e => pair_at t (i := i) (by simpa using e)
/-- the entries, as new pairs of the key's own tuple and the value -/
def IteT (d : Addr) (ob : Obj) (es : List (List L2.Key × V)) : It where
  go := fun j G => G d = some (.frz ob (.dT es)) ∧ j < es.length
  yld := fun j G x G' => ∃ t r k u, es[j]? = some (k, u) ∧ G r = some (.tup (k.map kV)) ∧ x = .ref t ∧ G t = none ∧ G' = upd G t (.tup [.ref r, u])
  stop := fun j G => G d = some (.frz ob (.dT es)) ∧ es.length ≤ j
section
variable {X : Cx} {pins : List (Addr × Obj)} {σ : L2.St} {H : Hp} {s : Shared} {d : Addr} {ob : Obj}
theorem frz_dT {ks : List (List L2.Key × V)} (I : Inv X pins σ H s) (h : H d = some (.frz ob (.dT ks))) : (d == sysModules) = false ∧ ∃ (es : Array DictEntry) (ep : Nat), DT.Raw s.heap d es ep ∧ ob.data = .dict es ep ∧ es.size = ks.length ∧
    ∀ (i : Nat) (k : List L2.Key) (v : V), ks[i]? = some (k, v) → ∃ (en : DictEntry) (q : Addr), es[i]? = some en ∧ en.key = .ref q ∧ RelV v en.val ∧ H q = some (.tup (k.map kV)) := by
  obtain ⟨g, _, ns, ys, pr, o2, es, ep, g2, hx, hdt, he, _⟩ := I.hok d _ h
  rw [g] at g2
  cases g2
  have l1 : es.size = ys.length := by
    have := congrArg List.length he
    rw [List.length_map, Array.length_toList] at this
    exact this
  have l2 : ks.length = ys.length := Paired.length pr
  refine ⟨ns, es, ep, ⟨ob, g, hx, hdt⟩, hdt, by omega, fun i k v e => ?_⟩
  obtain ⟨b, hb, e1, e2, e3⟩ := pair_at pr e
  have q : es[i]? = some (entryOfKey (tupleKind (mixKind X.prog X.w)) b) := by
    rw [← Array.getElem?_toList, he, List.getElem?_map, hb]
    rfl
  exact ⟨_, b.2.1, q, rfl, e3, e2⟩
end
theorem same_dict {o : Obj} {x y : Array DictEntry} {m n : Nat} (h : o.data = .dict x m) (h' : o.data = .dict y n) : y = x ∧ n = m := by
  rw [h] at h'
  cases h'
  exact ⟨rfl, rfl⟩
section
variable {P : Program} {w : World} {K : PySem.W.Frag} {d : Addr} {o : Obj} {es : Array DictEntry} {ep : Nat}
theorem turn_itemsT {ks : List (List L2.Key × V)} {elts : List Expr} {kk : Nat} {tpos : Pos} (it : Addr) (hod : o.data = .dict es ep) (hsz : es.size = ks.length) :
    Turn P w K (.Tuple elts kk tpos) (IteT d o ks) [it] it (fun i h => ∃ x y, IsItemIter h it d i es.size ep x y) where
  mem := List.mem_singleton.mpr rfl
  obj := by
    rintro i h ⟨x, y, e⟩ b hb
    obtain rfl := List.mem_singleton.mp hb
    exact ⟨_, e, fun v z => nomatch z⟩
  keep := by
    rintro i h h' ⟨x, y, e⟩ k
    exact ⟨x, y, k it (List.mem_singleton.mpr rfl) _ e⟩
  item := by
    intro X e1 e2 e3 hc i pins s σ H E I hf ⟨x, y, st⟩ ⟨hd, hi⟩
    subst e1 e2 e3
    obtain ⟨ns, es2, ep2, raw, hdt, hz, ent⟩ := frz_dT I hd
    obtain ⟨rfl, rfl⟩ := same_dict hod hdt
    obtain ⟨⟨k, v⟩, hkv⟩ : ∃ p, ks[i]? = some p := ⟨ks[i], List.getElem?_eq_getElem hi⟩
    obtain ⟨en, q, g1, g2, g3, g4⟩ := ent i k v hkv
    have hi2 : i < es2.size := by omega
    have g5 : es2[i] = en := by
      rw [Array.getElem?_eq_getElem hi2] at g1
      exact Option.some.inj g1
    have below : it < s.heap.objs.size := Heap.lt_size st
    have apart : s.heap.objs.size ≠ it := Nat.ne_of_gt below
    refine DT.nextI st raw hi2 fun h1 ho hT hz1 hk => ?_
    refine ⟨_, rfl, wpAny_letOwnedTupleGo_items (s := { s with heap := h1 }) ho fun h2 he sb => ?_⟩
    rw [g5] at hT he
    rw [g2] at hT
    have hT2 := (sb.2 s.heap.objs.size apart).trans hT
    have new : ObjOk X.prog X.w (upd H s.heap.objs.size (.tup [.ref q, v])) h2 s.heap.objs.size (.tup [.ref q, v]) :=
      ⟨by show 2 ≤ sizeLine; decide, [.ref q, en.val], .cons rfl (.cons g3 .nil), ⟨_, hT2, rfl, _, rfl⟩⟩
    have only : ∀ {b : Addr}, b ∉ [it] → b ≠ it := fun hb z => hb (List.mem_singleton.mpr z)
    have J := I.turnedNew (t' := s.toks) (ch := [it]) (fun b ob hb e => (sb.2 b (only hb)).trans (hk b ob (only hb) e)) hf (Nat.le_refl _) new
    refine ⟨.ref s.heap.objs.size, _, J, rfl, ⟨_, q, k, v, hkv, g4, rfl, I.hok.fresh (Nat.le_refl _), rfl⟩, ⟨_, _, he⟩, fun b hb => ?_⟩
    obtain rfl := List.mem_singleton.mp hb
    rw [upd_ne apart.symm]
    exact (hf b hb).1
  done := by
    intro X e1 e2 e3 hc i pins s σ H E I hf ⟨x, y, st⟩ ⟨hd, hi⟩
    subst e1 e2 e3
    obtain ⟨f0, f1, f2, f3, f4, f5⟩ := hf it (List.mem_singleton.mpr rfl)
    obtain ⟨ns, es2, ep2, raw, hdt, hz, ent⟩ := frz_dT I hd
    obtain ⟨rfl, rfl⟩ := same_dict hod hdt
    exact DT.endI (I.ok.hd hc) st raw (by omega) fun h1 eb => ⟨rfl, I.turned (t' := s.toks) (fun b ob hb e => eb b ob hb e) f0 f1 f3 f4 f5⟩
  self := by
    rintro A i s Q E ⟨x, y, e⟩ h
    exact PySem.W.kcp_self e h
end
def iItemsT (td : TE) : TI := fun σ H R => td σ H fun x H1 => ∃ d ob ks, x = .ref d ∧ H1 d = some (.frz ob (.dT ks)) ∧ R (IteT d ob ks) H1
theorem pi_itemsT {X : Cx} {e : Expr} {td : TE} {p1 p2 : Pos} {elts : List Expr} {kk : Nat} {tpos : Pos} (he : PE X e td) (hb : attributeBase e "items" X.env (eval e X.env) = eval e X.env := by rfl) (hl : (p1.endLine == p2.line) = true := by rfl) :
    PI X (.Tuple elts kk tpos) (.Call (.Attribute e "items" p1) [] [] p2) (iItemsT td) := by
  refine ⟨fun pins s σ H R I h => ?_⟩
  refine wpAny_Call_method (T := "dict") (id := "dict.items") hb rfl hl PySem.F.plainAttrs_dict PySem.F.slot_dict_items PySem.F.type_dict_items (thn (he.run pins s σ H _ I h) fun u s1 ⟨x, H1, I1, rx, d, ob, ks, ex, hd, q⟩ => ?_)
  subst ex
  obtain rfl : u = Value.ref d := rx
  obtain ⟨ns, es, ep, raw, hdt, hz, ent⟩ := frz_dT I1 hd
  obtain ⟨o2, g1, g2, g3⟩ := id raw
  refine ⟨raw.typeIs, ?_, ?_⟩
  · intro b e
    injection e with e
    subst e
    exact ⟨o2, g1, g2.2.1⟩
  have I2 : Inv X pins σ H1 { s1 with heap := s1.heap.push { cls := .type "dict_items", data := .fields #[.ref d] } } := I1.kept (t' := s1.toks) fun b o z => Heap.get?_push_of_some _ z
  have fin : wpAny (model X.prog X.w) X.A (pyIter (.ref s1.heap.objs.size)) (PIE X pins σ (.Tuple elts kk tpos) R) X.xe { s1 with heap := s1.heap.push { cls := .type "dict_items", data := .fields #[.ref d] } } :=
    DT.iterI (d := d) ⟨_, Heap.get?_push_size _ rfl, rfl, rfl⟩ (raw.push _) (pi_one (tk := s1.toks) I2 _ (turn_itemsT _ hdt hz) ⟨_, _, Heap.get?_push_size _ rfl⟩ q)
  show wpAny _ _ (callWith p2 (.builtin "dict.items") [.ref d] [] []) _ X.xe s1
  exact method_meetsIn PySem.F.slot_dict_items PySem.F.entry_dict_items rfl (PySem.evalArgs_none ⟨rfl, raw.typeIs, PySem.F.args_dict_items_1 _, _, DT.meetsItems (es := es) (ep := ep) ns, ⟨raw, fin⟩⟩)
theorem walk_itemsT {d : Addr} {ob : Obj} {ks : List (List L2.Key × V)} : Walk (IteT d ob ks) ks.length (fun G => G d = some (.frz ob (.dT ks)))
    (fun j G x G' => ∃ t r k u, ks[j]? = some (k, u) ∧ G r = some (.tup (k.map kV)) ∧ x = .ref t ∧ G t = none ∧ G' = upd G t (.tup [.ref r, u])) :=
  ⟨fun _ _ h q => ⟨q, h⟩, fun _ q => ⟨q, Nat.le_refl _⟩, fun _ _ _ _ _ _ y => y⟩
end Sg
set_option Elab.async false
set_option linter.all false
set_option maxRecDepth 100000
set_option maxHeartbeats 4000000
namespace Sg
open PySem PySem.Spec PyProof.Rows L2
/-! ## min(xs, default=z), xs a list of data that are alike -/
theorem vals_back : ∀ {ys : List V} {us : List Value}, Vals ys us → ∀ {i : Nat} {v : Value}, us[i]? = some v → ∃ y, ys[i]? = some y ∧ RelV y v
  | _, _, .nil, i, v, e => nomatch e
  | _, _, .cons r t, 0, v, e => by
    cases e
    exact ⟨_, rfl, r⟩
  | _, _, .cons r t, i + 1, v, e => vals_back t (i := i) (by simpa using e)
theorem reads_back {h : Heap} : ∀ {us : List Value} {ds : List PyData} {as : List Addr}, ReadsAll h us ds as → ∀ {i : Nat} {v : Value}, us[i]? = some v → ∃ d bs, ds[i]? = some d ∧ Reads h v d bs
  | _, _, _, .nil, i, v, e => nomatch e
  | _, _, _, .cons r t, 0, v, e => by
    cases e
    exact ⟨_, _, rfl, r⟩
  | _, _, _, .cons r t, i + 1, v, e => reads_back t (i := i) (by simpa using e)
theorem cr_minD {X : Cx} (hc : X.calm = true) {j : Nat} (hr : Room j X.A) : CallRK X (.builtin "min") ["default"] (fun vs zs H Q => ∃ (a : Addr) (ys : List V) (ds : List PyData) (z : V), vs = [.ref a] ∧ zs = [z] ∧ SqL X.K H a ys ∧ DpAll X.K H ys ds ∧
    PySem.W.AlikeAll ds ∧ PyData.depthAll ds ≤ 10 ∧ (ds = [] → Q z H) ∧ (∀ (i : Nat) (y : V) (e : PyData) (es : List PyData), ds = e :: es → ys[i]? = some y → ds[i]? = some (PySem.W.minD e es) → Q y H)) := by
  intro pins s σ H xs zs us ws Q I r rz h
  obtain ⟨a, ys, ds, z, rfl, rfl, hs, dp, al, dep, q1, q2⟩ := h
  obtain ⟨u, rfl, rfl⟩ := vals1 r
  obtain ⟨dv, rfl, rd0⟩ := vals1 rz
  obtain ⟨its, rv, hl, hzz⟩ := I.list hs
  obtain ⟨as, rd⟩ := Dp.readsAll I ds _ its dp rv
  have hu := hr.units
  refine PySem.W.min_list_default (I.ok.hd hc) hl.isList (by simpa using rd) al (by omega) (fun e h' tk hk => ?_) (fun e es i v h' tk bs ee hv hrd hk => ?_)
  · exact ⟨z, H, I.kept hk, rd0, q1 e⟩
  · have hv' : its[i]? = some v := by simpa using hv
    obtain ⟨y, hy, ry⟩ := vals_back rv hv'
    obtain ⟨d, bs2, hd, rd2⟩ := reads_back rd hv'
    obtain ⟨e1, _⟩ := reads_det (fun b o g _ => hk b o g) rd2 hrd
    rw [← e1] at hd
    exact ⟨y, H, I.kept hk, ry, q2 i y e es ee hy hd⟩
end Sg
set_option Elab.async false
set_option linter.all false
set_option maxRecDepth 100000
set_option maxHeartbeats 4000000
namespace Sg
open PySem PySem.Spec PyProof.Rows L2
/-! ## heaps -/
/-- all but p is as it was -/
def But (p : Addr) (H H' : Hp) : Prop := ∀ q o, q ≠ p → H q = some o → H' q = some o
theorem But.refl (p : Addr) (H : Hp) : But p H H := fun _ _ _ h => h
theorem But.trans {p : Addr} {H H1 H2 : Hp} (a : But p H H1) (b : But p H1 H2) : But p H H2 := fun q o n h => b q o n (a q o n h)
theorem But.of {p : Addr} {H H' : Hp} (a : Same H H') : But p H H' := fun q o _ h => a q o h
theorem But.upd {p : Addr} {H : Hp} {o : HO} : But p H (upd H p o) := fun q u n h => by rw [upd_ne n]; exact h
theorem same_new {H : Hp} {p : Addr} {o : HO} (h : H p = none) : Same H (upd H p o) := fun b x e => by
  rw [upd_ne (ne_of_none e h)]
  exact e
/-- what is new behind a But is new ahead -/
theorem But.free {p q : Addr} {H H' : Hp} {u : HO} (e : But p H H') (hp : H p = some u) (hp' : ∃ v, H' p = some v) (h : H' q = none) : H q = none := by
  by_cases n : q = p
  · subst n
    obtain ⟨v, hv⟩ := hp'
    rw [hv] at h
    exact nomatch h
  · rcases z : H q with _ | o
    · rfl
    · rw [e q o n z] at h
      exact nomatch h
theorem But.tup {K : PySem.W.Frag} {p : Addr} {H H' : Hp} {a : Addr} {xs ys : List V} (e : But p H H') (hp : H p = some (.lst ys)) (h : SqT K H a xs) : SqT K H' a xs := by
  rcases h with (h | ⟨o, h⟩) | h
  · exact .inl (.inl (e _ _ (ne_of h hp (fun z => nomatch z)) h))
  · exact .inl (.inr ⟨o, e _ _ (ne_of h hp (fun z => nomatch z)) h⟩)
  · exact .inr h
theorem Same.tup {K : PySem.W.Frag} {H H' : Hp} {a : Addr} {xs : List V} (e : Same H H') (h : SqT K H a xs) : SqT K H' a xs := by
  rcases h with (h | ⟨o, h⟩) | h
  · exact .inl (.inl (e _ _ h))
  · exact .inl (.inr ⟨o, e _ _ h⟩)
  · exact .inr h
/-- a pen at p -/
def PenAt (H : Hp) (p : Addr) : Prop := ∃ a b c : Int, H p = some (.lst [.int a, .int b, .int c]) ∧ 0 ≤ b ∧ b < 2147483648
theorem PenAt.same {H H' : Hp} {p : Addr} (h : PenAt H p) (e : Same H H') : PenAt H' p := by
  obtain ⟨a, b, c, h1, h2⟩ := h
  exact ⟨a, b, c, e _ _ h1, h2⟩
theorem PenAt.tup {K : PySem.W.Frag} {p : Addr} {H H' : Hp} {a : Addr} {xs : List V} (h : PenAt H p) (e : But p H H') (q : SqT K H a xs) : SqT K H' a xs := by
  obtain ⟨_, _, _, h1, _⟩ := h
  exact e.tup h1 q
theorem PenAt.free {p q : Addr} {H H' : Hp} (h : PenAt H p) (h' : PenAt H' p) (e : But p H H') (n : H' q = none) : H q = none := by
  obtain ⟨_, _, _, h1, _⟩ := h
  obtain ⟨_, _, _, h2, _⟩ := h'
  exact e.free h1 ⟨_, h2⟩ n
theorem atI0 {x : V} {r : List V} : atI (x :: r) 0 = some x := atI_nat (j := 0) rfl
theorem atI1 {x y : V} {r : List V} : atI (x :: y :: r) 1 = some y := atI_nat (j := 1) rfl
theorem atI2 {x y z : V} {r : List V} : atI (x :: y :: z :: r) 2 = some z := atI_nat (j := 2) rfl
def atD (ns : List Int) (t : Int) : Int := if 0 ≤ t ∧ t < ns.length then ns.getD t.toNat 0 else -1
end Sg
set_option Elab.async false
set_option linter.all false
set_option maxRecDepth 100000
set_option maxHeartbeats 4000000
namespace Sg
open PySem PySem.Spec PyProof.Rows L2
/-! ## the mathematics of bars -/
/-- a work, as its items -/
structure IsWork (ns : List Int) : Prop where
  pos : 1 ≤ ns.length
  most : ns.length ≤ 60
  items : ∀ x ∈ ns, -1 ≤ x ∧ x ≤ 9
  head : ∀ x, ns[0]? = some x → x ≠ -1
  last : ∀ x, ns[ns.length - 1]? = some x → x ≠ -1
/-- a piece of other, d ticks behind one of one, clashes with it -/
def clashB (one other : List Int) (d : Nat) : Bool := ((one.drop d).zip other).any fun p => p.1 == p.2 && p.1 != -1
def barsN (one other : List Int) : List Nat := (List.range' 1 (one.length - 1)).filter (clashB one other)
theorem atD_in {ns : List Int} {j : Nat} {x : Int} (h : ns[j]? = some x) : atD ns (j : Int) = x := by
  have hl := (List.getElem?_eq_some_iff.mp h).1
  unfold atD
  rw [if_pos ⟨by omega, by omega⟩, Int.toNat_natCast, List.getD_eq_getElem?_getD, h]; rfl
theorem atD_cases (ns : List Int) (t : Int) : (∃ j : Nat, t = j ∧ ns[j]? = some (atD ns t)) ∨ atD ns t = -1 := by
  by_cases h : 0 ≤ t ∧ t < ns.length
  · obtain ⟨j, rfl⟩ : ∃ j : Nat, t = j := ⟨t.toNat, by omega⟩
    have hj : j < ns.length := by omega
    exact .inl ⟨j, rfl, by rw [atD_in (List.getElem?_eq_getElem hj), List.getElem?_eq_getElem hj]⟩
  · refine .inr ?_
    unfold atD
    rw [if_neg h]
theorem clashB_iff {one other : List Int} {d : Nat} : clashB one other d = true ↔ ∃ j x, one[d + j]? = some x ∧ other[j]? = some x ∧ x ≠ -1 := by
  unfold clashB
  rw [List.any_eq_true]
  constructor
  · rintro ⟨⟨x, y⟩, hm, h⟩
    obtain ⟨j, hj⟩ := List.mem_iff_getElem?.mp hm
    obtain ⟨h1, h2⟩ := List.getElem?_zip_eq_some.mp hj
    simp only [Bool.and_eq_true, beq_iff_eq, bne_iff_ne, ne_eq] at h
    rw [List.getElem?_drop] at h1
    exact ⟨j, x, h1, h.1 ▸ h2, h.2⟩
  · rintro ⟨j, x, h1, h2, h3⟩
    refine ⟨(x, x), List.mem_iff_getElem?.mpr ⟨j, List.getElem?_zip_eq_some.mpr ⟨by rw [List.getElem?_drop]; exact h1, h2⟩⟩, ?_⟩
    simp [h3]
/-! ### lists step by step -/
theorem filter_range'_succ (f : Nat → Bool) (a n : Nat) : (List.range' a (n + 1)).filter f = (List.range' a n).filter f ++ (if f (a + n) = true then [a + n] else []) := by
  rw [List.range'_concat, List.filter_append, Nat.one_mul]
  congr 1
  by_cases h : f (a + n) = true
  · rw [if_pos h, List.filter_cons_of_pos h]; rfl
  · rw [if_neg h, List.filter_cons_of_neg h]; rfl
/-- the bars found below 1 + n -/
def barsTo (one other : List Int) (n : Nat) : List Nat := (List.range' 1 n).filter (clashB one other)
theorem barsTo_len (one other : List Int) (n : Nat) : (barsTo one other n).length ≤ n := by
  unfold barsTo
  refine Nat.le_trans (List.length_filter_le _ _) ?_
  rw [List.length_range']
  exact Nat.le_refl _
abbrev nV (l : List Nat) : List V := l.map fun d => V.int (d : Nat)
theorem barsTo_yes {one other : List Int} {n : Nat} (h : clashB one other (1 + n) = true) : nV (barsTo one other (n + 1)) = nV (barsTo one other n) ++ [.int ((1 : Int) + n)] := by
  unfold nV barsTo
  rw [filter_range'_succ, if_pos h, List.map_append]
  have e : (((1 + n : Nat) : Int)) = (1 : Int) + n := by omega
  simp only [List.map_cons, List.map_nil, e]
theorem barsTo_no {one other : List Int} {n : Nat} (h : clashB one other (1 + n) = false) : barsTo one other (n + 1) = barsTo one other n := by
  unfold barsTo
  rw [filter_range'_succ, if_neg (by rw [h]; exact Bool.false_ne_true), List.append_nil]
/-- the pairs of a zip, looked at in turn -/
def hitsTo (one other : List Int) (d n : Nat) : List Bool := (((one.drop d).zip other).take n).map fun p => p.1 == p.2 && p.1 != -1
theorem hits_any (one other : List Int) (d : Nat) : (hitsTo one other d (min (one.drop d).length other.length)).any id = clashB one other d := by
  unfold hitsTo clashB
  rw [List.take_of_length_le (by rw [List.length_zip]; exact Nat.le_refl _), List.any_map]
  rfl
theorem hits_succ {one other : List Int} {d n : Nat} {x y : Int} (h1 : (one.drop d)[n]? = some x) (h2 : other[n]? = some y) : hitsTo one other d (n + 1) = hitsTo one other d n ++ [x == y && x != -1] := by
  unfold hitsTo
  rw [List.take_add_one, List.getElem?_zip_eq_some (z := (x, y)) |>.mpr ⟨h1, h2⟩, List.map_append]
  rfl
theorem hits_len (one other : List Int) (d n : Nat) : (hitsTo one other d n).length ≤ n := by
  unfold hitsTo
  rw [List.length_map, List.length_take]
  exact Nat.min_le_left _ _
end Sg
set_option Elab.async false
set_option linter.all false
set_option maxRecDepth 100000
set_option maxHeartbeats 4000000
namespace Sg
open PySem PySem.Spec PyProof.Rows L2
theorem walk_zipT {K : PySem.W.Frag} {a b : Addr} {xs ys : List V} {n : Nat} (hn : n = min xs.length ys.length) :
    Walk (RZ.ItzT K a b) n (fun H => SqT K H a xs ∧ SqT K H b ys) (YPair (fun i => xs[i]?) (fun i => ys[i]?)) := by
  subst hn
  constructor
  · intro i H hi q
    have h1 : i < xs.length := by omega
    have h2 : i < ys.length := by omega
    exact ⟨xs, ys, xs[i], ys[i], q.1, q.2, List.getElem?_eq_getElem h1, List.getElem?_eq_getElem h2⟩
  · intro H q
    exact ⟨xs, ys, q.1, q.2, by omega⟩
  · rintro i H v H' hi q ⟨T, x, z, h1, h2, h3, h4, h5⟩
    exact ⟨T, x, z, h1, h2, h3, h4 xs q.1, h5 ys q.2⟩
theorem walk_enumT {K : PySem.W.Frag} {a : Addr} {xs : List V} :
    Walk (ItE K a) xs.length (fun H => SqT K H a xs) (YPair (fun i => some (.int (i : Nat))) (fun i => xs[i]?)) := by
  constructor
  · intro i H hi q
    exact ⟨xs, xs[i], q, List.getElem?_eq_getElem hi⟩
  · intro H q
    exact ⟨xs, q, Nat.le_refl _⟩
  · rintro i H v H' hi q ⟨T, x, h1, h2, h3, h4⟩
    exact ⟨T, .int (i : Nat), x, h1, h2, h3, rfl, h4 xs q⟩
theorem cut_from (xs : List V) (d : Nat) : cutV xs (some (d : Int)) none = xs.drop d := by
  unfold cutV
  rw [HT.sIx_nat, HT.sIx_none]
  rcases Nat.le_total d xs.length with h | h
  · rw [Nat.min_eq_left h]
    exact List.take_of_length_le (by rw [List.length_drop]; exact Nat.le_refl _)
  · rw [Nat.min_eq_right h, List.drop_of_length_le (Nat.le_refl _), List.drop_of_length_le h]
    exact List.take_nil
section
variable {P : Program} {w : World} {K : PySem.W.Frag} {mg : Str → Option Value} {base : Heap}
theorem tyT {H : Hp} {a : Addr} {xs : List V} (h : SqT K H a xs) : TyX K H (.ref a) (.type "tuple") := by
  rcases h with (h | ⟨o, h⟩) | ⟨o, _, _, h, hc, _⟩
  · exact .base (.tup h)
  · exact .fTuple h
  · exact .kTuple h hc
/-- the module's numbers -/
structure Nums (mg : Str → Option Value) : Prop where
  nowhere : ∃ t, mg "NOWHERE" = some (.int (-1) t)
  stations : ∃ t, mg "STATIONS" = some (.int 10 t)
  most : ∃ t, mg "MOST_ITEMS" = some (.int 60 t)
def inR (x : Int) : Bool := decide (-1 ≤ x) && decide (x ≤ 9)
end
end Sg
set_option Elab.async false
set_option linter.all false
set_option maxRecDepth 100000
set_option maxHeartbeats 4000000
namespace Sg
open PySem PySem.Spec PyProof.Rows L2
/-! ## data that is shown -/
/-- data made of small ints, in lists and tuples, no deeper than n, of bulk b at most -/
structure Small (d : PyData) (n b : Nat) : Prop where
  sh : d.showable = true
  nd : d.hasDict = false
  dp : d.depth ≤ n
  lv : d.leavesShort 15 = true
  bk : d.bulk ≤ b
  ly : d.canLay0 = true
structure SmallAll (ds : List PyData) (n b : Nat) : Prop where
  sh : PyData.showableAll ds = true
  nd : PyData.hasDictAll ds = false
  dp : PyData.depthAll ds ≤ n
  lv : PyData.leavesShortAll 15 ds = true
  bk : PyData.bulkAll ds ≤ b
  ly : PyData.canLayAll0 ds = true
theorem Small.shaped {d : PyData} {n b : Nat} (h : Small d n b) (hn : n ≤ 64) : SeqAt.shaped d = true := by
  unfold SeqAt.shaped
  rw [h.ly, decide_eq_true (Nat.le_trans h.dp hn)]
  rfl
theorem Small.list {ds : List PyData} {n b : Nat} (h : SmallAll ds n b) : Small (.list ds) (n + 1) b :=
  ⟨by simpa only [PyData.showable] using h.sh, by simpa only [PyData.hasDict] using h.nd, by simpa only [PyData.depth] using Nat.succ_le_succ h.dp,
    by simpa only [PyData.leavesShort] using h.lv, by simpa only [PyData.bulk] using h.bk, by simpa only [PyData.canLay0] using h.ly⟩
theorem Small.tuple {ds : List PyData} {n b : Nat} (h : SmallAll ds n b) : Small (.tuple ds) (n + 1) b :=
  ⟨by simpa only [PyData.showable] using h.sh, by simpa only [PyData.hasDict] using h.nd, by simpa only [PyData.depth] using Nat.succ_le_succ h.dp,
    by simpa only [PyData.leavesShort] using h.lv, by simpa only [PyData.bulk] using h.bk, by simpa only [PyData.canLay0] using h.ly⟩
theorem SmallAll.nil {n b : Nat} : SmallAll [] n b := ⟨by simp only [PyData.showableAll], by simp only [PyData.hasDictAll], by simp only [PyData.depthAll]; exact Nat.zero_le _,
  by simp only [PyData.leavesShortAll], by simp only [PyData.bulkAll]; exact Nat.zero_le _, by simp only [PyData.canLayAll0]⟩
theorem SmallAll.cons {d : PyData} {ds : List PyData} {n b c : Nat} (h : Small d n b) (r : SmallAll ds n c) : SmallAll (d :: ds) n (b + 1 + c) :=
  ⟨by simp only [PyData.showableAll, h.sh, r.sh, Bool.and_self], by simp only [PyData.hasDictAll, h.nd, r.nd, Bool.or_self], by simp only [PyData.depthAll]; exact Nat.max_le.mpr ⟨h.dp, r.dp⟩,
    by simp only [PyData.leavesShortAll, h.lv, r.lv, Bool.and_self], by simp only [PyData.bulkAll]; have h1 := h.bk; have h2 := r.bk; omega, by simp only [PyData.canLayAll0, h.ly, r.ly, Bool.and_self]⟩
theorem Small.int {i : Int} {n b : Nat} (h1 : -99999999999999 ≤ i) (h2 : i ≤ 99999999999999) : Small (.int i) n b := by
  refine ⟨?_, by simp only [PyData.hasDict], by simp only [PyData.depth]; exact Nat.zero_le _, ?_, by simp only [PyData.bulk]; exact Nat.zero_le _, by simp only [PyData.canLay0]⟩
  · simp only [PyData.showable, decide_eq_true_eq]
    have h3 : i.natAbs < 2 ^ 47 := by omega
    have h4 := PySem.Flt.log2_lt_of (show 0 < 47 by decide) h3
    omega
  · simp only [PyData.leavesShort, decide_eq_true_eq]
    have h6 : i.natAbs < 10 ^ 14 := by
      have e : (10 : Nat) ^ 14 = 100000000000000 := by decide
      rw [e]
      omega
    have h5 := int_text_length_le10 (k := 14) (by decide) h6
    show (Str.ofString (toString i)).length ≤ 15
    rw [PySem.ofString_length]
    exact h5
theorem Small.mono {d : PyData} {n m b c : Nat} (h : Small d n b) (hn : n ≤ m) (hb : b ≤ c) : Small d m c := ⟨h.sh, h.nd, Nat.le_trans h.dp hn, h.lv, Nat.le_trans h.bk hb, h.ly⟩
theorem SmallAll.mono {d : List PyData} {n m b c : Nat} (h : SmallAll d n b) (hn : n ≤ m) (hb : b ≤ c) : SmallAll d m c := ⟨h.sh, h.nd, Nat.le_trans h.dp hn, h.lv, Nat.le_trans h.bk hb, h.ly⟩
abbrev iD (ns : List Int) : List PyData := ns.map PyData.int
theorem SmallAll.ints {n : Nat} : ∀ (ns : List Int), (∀ x ∈ ns, -99999999999999 ≤ x ∧ x ≤ 99999999999999) → SmallAll (iD ns) n ns.length
  | [], _ => .nil
  | x :: r, h => by
    have h1 := h x List.mem_cons_self
    have h2 := SmallAll.cons (Small.int (n := n) (b := 0) h1.1 h1.2) (SmallAll.ints r fun y hy => h y (List.mem_cons_of_mem _ hy))
    exact h2.mono (Nat.le_refl _) (by show 0 + 1 + r.length ≤ r.length + 1; omega)
theorem dpInts {K : PySem.W.Frag} {H : Hp} : ∀ (ns : List Int), DpAll K H (ns.map V.int) (iD ns)
  | [] => .nil
  | x :: r => .cons (.int x) (dpInts r)
abbrev nI (l : List Nat) : List Int := l.map fun d => ((d : Nat) : Int)
theorem nV_eq (l : List Nat) : nV l = (nI l).map V.int := by rw [List.map_map]; rfl
section
variable {P : Program} {w : World} {K : PySem.W.Frag} {mg : Str → Option Value} {base : Heap}
/-! ### _law_same -/
theorem PenAt.upd {H : Hp} {p q : Addr} {o : HO} (h : PenAt H p) (n : p ≠ q) : PenAt (upd H q o) p := by
  obtain ⟨a, b, c, h1, h2⟩ := h
  exact ⟨a, b, c, by rw [upd_ne n]; exact h1, h2⟩
theorem PenAt.ne {H : Hp} {p q : Addr} (h : PenAt H p) (n : H q = none) : p ≠ q := by
  obtain ⟨a, b, c, h1, _⟩ := h
  exact ne_of_none h1 n
end
end Sg
set_option Elab.async false
set_option linter.all false
set_option maxRecDepth 100000
set_option maxHeartbeats 4000000
namespace Sg
open PySem PySem.Spec PyProof.Rows L2
/-! ## data of ints and tuples alone -/
section
variable {K : PySem.W.Frag} {H H' : Hp}
mutual
inductive Tp (K : PySem.W.Frag) (H : Hp) : V → PyData → Prop
  | int (i : Int) : Tp K H (.int i) (.int i)
  | tu {a : Addr} {xs : List V} {ds : List PyData} : SqT K H a xs → TpAll K H xs ds → Tp K H (.ref a) (.tuple ds)
inductive TpAll (K : PySem.W.Frag) (H : Hp) : List V → List PyData → Prop
  | no : TpAll K H [] []
  | on {v : V} {vs : List V} {d : PyData} {ds : List PyData} : Tp K H v d → TpAll K H vs ds → TpAll K H (v :: vs) (d :: ds)
end
mutual
theorem Tp.dp : ∀ {v : V} {d : PyData}, Tp K H v d → Dp K H v d
  | _, _, .int i => .int i
  | _, _, .tu h r => .tup h (TpAll.dp r)
theorem TpAll.dp : ∀ {v : List V} {d : List PyData}, TpAll K H v d → DpAll K H v d
  | _, _, .no => .nil
  | _, _, .on a r => .cons (Tp.dp a) (TpAll.dp r)
end
/-- all tuples and all instances are as they were -/
structure St (K : PySem.W.Frag) (H H' : Hp) : Prop where
  tu : ∀ a xs, SqT K H a xs → SqT K H' a xs
  ob : ∀ a C dx fs, H a = some (.ins C dx fs) → H' a = some (.ins C dx fs)
theorem St.refl : St K H H := ⟨fun _ _ h => h, fun _ _ _ _ h => h⟩
theorem St.trans {H2 : Hp} (a : St K H H') (b : St K H' H2) : St K H H2 := ⟨fun _ _ h => b.tu _ _ (a.tu _ _ h), fun _ _ _ _ h => b.ob _ _ _ _ (a.ob _ _ _ _ h)⟩
theorem St.of (e : Same H H') : St K H H' := ⟨fun _ _ h => Same.tup e h, fun _ _ _ _ h => e _ _ h⟩
theorem St.but {p : Addr} {ys : List V} (e : But p H H') (hp : H p = some (.lst ys)) : St K H H' :=
  ⟨fun _ _ h => But.tup e hp h, fun a C dx fs h => e _ _ (fun z => by rw [z, hp] at h; exact nomatch h) h⟩
mutual
theorem Tp.stayT (e : ∀ a xs, SqT K H a xs → SqT K H' a xs) : ∀ {v : V} {d : PyData}, Tp K H v d → Tp K H' v d
  | _, _, .int i => .int i
  | _, _, .tu h r => .tu (e _ _ h) (TpAll.stayT e r)
theorem TpAll.stayT (e : ∀ a xs, SqT K H a xs → SqT K H' a xs) : ∀ {v : List V} {d : List PyData}, TpAll K H v d → TpAll K H' v d
  | _, _, .no => .no
  | _, _, .on a r => .on (Tp.stayT e a) (TpAll.stayT e r)
end
theorem tu_ins {p C dx : Addr} {fs : List (Str × V)} {o : HO} (hp : H p = some (.ins C dx fs)) : ∀ a xs, SqT K H a xs → SqT K (upd H p o) a xs := by
  intro a xs h
  have ne : ∀ u, H a = some u → (∀ C dx fs, u ≠ .ins C dx fs) → a ≠ p := fun u hu n z => by
    rw [z, hp] at hu
    exact n _ _ _ (Option.some.inj hu).symm
  exact h.imp (fun z => z.imp (fun z => by rw [upd_ne (ne _ z (fun _ _ _ q => nomatch q))]; exact z) fun ⟨u, z⟩ => ⟨u, by rw [upd_ne (ne _ z (fun _ _ _ q => nomatch q))]; exact z⟩) id
mutual
theorem Tp.stay (e : St K H H') : ∀ {v : V} {d : PyData}, Tp K H v d → Tp K H' v d
  | _, _, .int i => .int i
  | _, _, .tu h r => .tu (e.tu _ _ h) (TpAll.stay e r)
theorem TpAll.stay (e : St K H H') : ∀ {v : List V} {d : List PyData}, TpAll K H v d → TpAll K H' v d
  | _, _, .no => .no
  | _, _, .on a r => .on (Tp.stay e a) (TpAll.stay e r)
end
theorem TpAll.len : ∀ {vs : List V} {ds : List PyData}, TpAll K H vs ds → vs.length = ds.length
  | _, _, .no => rfl
  | _, _, .on _ r => congrArg (· + 1) (TpAll.len r)
theorem TpAll.at : ∀ {vs : List V} {ds : List PyData} {i : Nat} {v : V}, TpAll K H vs ds → vs[i]? = some v → ∃ d, ds[i]? = some d ∧ Tp K H v d
  | _, _, 0, _, .on a _, e => by cases e; exact ⟨_, rfl, a⟩
  | _, _, i + 1, _, .on _ r, e => TpAll.at (i := i) r e
theorem TpAll.add : ∀ {vs us : List V} {ds es : List PyData}, TpAll K H vs ds → TpAll K H us es → TpAll K H (vs ++ us) (ds ++ es)
  | _, _, _, _, .no, b => b
  | _, _, _, _, .on a r, b => .on a (TpAll.add r b)
theorem TpAll.cut : ∀ {vs : List V} {ds : List PyData} (n : Nat), TpAll K H vs ds → TpAll K H (vs.take n) (ds.take n)
  | _, _, 0, _ => .no
  | _, _, _ + 1, .no => .no
  | _, _, n + 1, .on a r => .on a (TpAll.cut n r)
theorem TpAll.off : ∀ {vs : List V} {ds : List PyData} (n : Nat), TpAll K H vs ds → TpAll K H (vs.drop n) (ds.drop n)
  | _, _, 0, r => r
  | _, _, _ + 1, .no => .no
  | _, _, n + 1, .on _ r => TpAll.off n r
theorem TpAll.ints : ∀ (ns : List Int), TpAll K H (ns.map V.int) (iD ns)
  | [] => .no
  | x :: r => .on (.int x) (TpAll.ints r)
theorem TpAll.isInts : ∀ {vs : List V} {ns : List Int}, TpAll K H vs (iD ns) → vs = ns.map V.int
  | _, [], .no => rfl
  | _, _ :: _, .on (.int _) r => by rw [TpAll.isInts r]; rfl
theorem Tp.ofInts {a : Addr} {ns : List Int} (h : SqT K H a (ns.map V.int)) : Tp K H (.ref a) (.tuple (iD ns)) := .tu h (TpAll.ints ns)
theorem Tp.toInts {v : V} {ns : List Int} (h : Tp K H v (.tuple (iD ns))) : ∃ a, v = .ref a ∧ SqT K H a (ns.map V.int) := by
  cases h with
  | tu h r => exact ⟨_, rfl, by rw [← TpAll.isInts r]; exact h⟩
theorem Tp.toTup {v : V} {ds : List PyData} (h : Tp K H v (.tuple ds)) : ∃ a xs, v = .ref a ∧ SqT K H a xs ∧ TpAll K H xs ds := by
  cases h with
  | tu h r => exact ⟨_, _, rfl, h, r⟩
end
/-! ## lines -/
/-- one to three works -/
structure GoodL (ws : List (List Int)) : Prop where
  least : 1 ≤ ws.length
  few : ws.length ≤ 3
  work : ∀ w ∈ ws, IsWork w
abbrev tD (ns : List Int) : PyData := .tuple (iD ns)
abbrev tDs (ws : List (List Int)) : List PyData := ws.map tD
abbrev cellD (a b : List Int) : PyData := tD (nI (barsN a b))
abbrev rowD (a : List Int) (ws : List (List Int)) : PyData := .tuple (ws.map (cellD a))
abbrev barD (ws : List (List Int)) : List PyData := ws.map fun a => rowD a ws
/-- the bars of all, row by row -/
def rowB (a : List Int) (ws : List (List Int)) : List Int := ws.flatMap fun b => nI (barsN a b)
def allB (ws vs : List (List Int)) : List Int := ws.flatMap fun a => rowB a vs
/-- the greatest, or 0 -/
structure Top (l : List Int) (m : Int) : Prop where
  pos : 0 ≤ m
  le : ∀ x ∈ l, x ≤ m
  eq : m = 0 ∨ m ∈ l
theorem Top.uniq {l k : List Int} {m n : Int} (h : Top l m) (g : Top k n) (e : ∀ x, x ∈ l ↔ x ∈ k) : m = n := by
  have a : m ≤ n := by
    rcases h.eq with z | z
    · rw [z]; exact g.pos
    · exact g.le _ ((e _).mp z)
  have b : n ≤ m := by
    rcases g.eq with z | z
    · rw [z]; exact h.pos
    · exact h.le _ ((e _).mpr z)
  omega
/-! ### the object -/
def lf (t b : Addr) (r : Int) : List (Str × V) := putF "_reach" (.int r) (putF "_bars" (.ref b) (putF "_works" (.ref t) []))
theorem k1 : ¬ (("_works" : Str) = "_bars") := by decide +kernel
theorem k2 : ¬ (("_works" : Str) = "_reach") := by decide +kernel
theorem k3 : ¬ (("_bars" : Str) = "_reach") := by decide +kernel
theorem lf_works (t b : Addr) (r : Int) : (lf t b r).lookup ("_works" : Str) = some (.ref t) := by
  unfold lf
  rw [lookup_putF, if_neg k2, lookup_putF, if_neg k1, lookup_putF, if_pos rfl]
theorem lf_bars (t b : Addr) (r : Int) : (lf t b r).lookup ("_bars" : Str) = some (.ref b) := by
  unfold lf
  rw [lookup_putF, if_neg k3, lookup_putF, if_pos rfl]
/-- a Line of these works stands at a -/
def LineAt (K : PySem.W.Frag) (C : Addr) (H : Hp) (a : Addr) (ws : List (List Int)) : Prop :=
  ∃ (dx t b : Addr) (r : Int), H a = some (.ins C dx (lf t b r)) ∧ Tp K H (.ref t) (.tuple (tDs ws)) ∧ Tp K H (.ref b) (.tuple (barD ws)) ∧ Top (allB ws ws) r ∧ GoodL ws
theorem LineAt.ins {K : PySem.W.Frag} {C a : Addr} {H : Hp} {ws : List (List Int)} (h : LineAt K C H a ws) : InsAt H C a := by
  obtain ⟨dx, t, b, r, h1, _⟩ := h
  exact ⟨_, _, h1⟩
theorem LineAt.good {K : PySem.W.Frag} {C a : Addr} {H : Hp} {ws : List (List Int)} (h : LineAt K C H a ws) : GoodL ws := by
  obtain ⟨dx, t, b, r, _, _, _, _, g⟩ := h
  exact g
theorem LineAt.stay {K : PySem.W.Frag} {C a : Addr} {H H' : Hp} {ws : List (List Int)} (e : St K H H') (h : LineAt K C H a ws) : LineAt K C H' a ws := by
  obtain ⟨dx, t, b, r, h1, h2, h3, h4, h5⟩ := h
  exact ⟨dx, t, b, r, e.ob _ _ _ _ h1, h2.stay e, h3.stay e, h4, h5⟩
theorem TpAll.works {K : PySem.W.Frag} {H : Hp} {vs : List V} {ws : List (List Int)} {i : Nat} {v : V} (h : TpAll K H vs (tDs ws)) (e : vs[i]? = some v) : ∃ w a, ws[i]? = some w ∧ v = .ref a ∧ SqT K H a (w.map V.int) := by
  obtain ⟨d, hd, t⟩ := h.at e
  rw [List.getElem?_map] at hd
  obtain ⟨w, hw, rfl⟩ := Option.map_eq_some_iff.mp hd
  obtain ⟨a, rfl, hs⟩ := t.toInts
  exact ⟨w, a, hw, rfl, hs⟩
end Sg
set_option Elab.async false
set_option linter.all false
set_option maxRecDepth 100000
set_option maxHeartbeats 4000000
namespace Sg
open PySem PySem.Spec PyProof.Rows L2
theorem call_tuple_ofK {X : Cx} {K : PySem.W.Frag} (hK : X.K = K) : CallR X (.type "tuple") (fun xs H Q => ∃ p ys, xs = [.ref p] ∧ ((SqL K H p ys ∧ ∀ l, H l = none → Q (.ref l) (upd H l (.tup ys))) ∨ (SqT K H p ys ∧ Q (.ref p) H))) := by
  subst hK; exact call_tuple_of
theorem pi_tupK {X : Cx} {K : PySem.W.Frag} {tg l : Expr} {tl : TE} (hK : X.K = K) (hl : PE X l tl) : PI X tg l (iTup K tl) := by
  subst hK; exact pi_tup hl
/-! ## a list of tuple data that grows -/
def Grow (K : PySem.W.Frag) (H1 : Hp) (D : Addr) (ds : List PyData) (i : Nat) (H' : Hp) : Prop := Same H1 H' ∧ ∃ acc, H' D = some (.lst acc) ∧ TpAll K H' acc (ds.take i)
theorem Grow.zero {K : PySem.W.Frag} {H1 : Hp} {D : Addr} {ds : List PyData} (hD : H1 D = none) : Grow K H1 D ds 0 (upd H1 D (.lst [])) :=
  ⟨same_new hD, [], upd_same, .no⟩
theorem Grow.next {K : PySem.W.Frag} {H1 H' H'' : Hp} {D : Addr} {ds : List PyData} {i : Nat} {d : PyData} {v : V} (hD : H1 D = none) (hz : ds.length ≤ 1000) (h : Grow K H1 D ds i H') (e : Same H' H'') (hd : ds[i]? = some d) (t : Tp K H'' v d) :
    ∃ acc, H'' D = some (.lst acc) ∧ acc.length < sizeLine ∧ Grow K H1 D ds (i + 1) (upd H'' D (.lst (acc ++ [v]))) := by
  obtain ⟨s1, acc, h1, h2⟩ := h
  have hD2 := e _ _ h1
  have st : St K H'' (upd H'' D (.lst (acc ++ [v]))) := .but (.upd) hD2
  refine ⟨acc, hD2, ?_, fun b o q => ?_, _, upd_same, ?_⟩
  · have z := h2.len
    have z2 : i < ds.length := (List.getElem?_eq_some_iff.mp hd).1
    rw [List.length_take] at z
    exact small1000 (by omega)
  · rw [upd_ne (ne_of_none q hD)]
    exact e _ _ (s1 _ _ q)
  · rw [List.take_add_one, hd]
    exact ((h2.stay (.of e)).stay st).add (.on (t.stay st) .no)
theorem Grow.done {K : PySem.W.Frag} {H1 H' : Hp} {D : Addr} {ds : List PyData} {n : Nat} (h : Grow K H1 D ds n H') (hn : n = ds.length) : Same H1 H' ∧ ∃ acc, H' D = some (.lst acc) ∧ TpAll K H' acc ds := by
  obtain ⟨s1, acc, h1, h2⟩ := h
  rw [hn, List.take_length] at h2
  exact ⟨s1, acc, h1, h2⟩
theorem Tp.new {K : PySem.W.Frag} {H : Hp} {l : Addr} {acc : List V} {ds : List PyData} (nl : H l = none) (t : TpAll K H acc ds) : Tp K (upd H l (.tup acc)) (.ref l) (.tuple ds) :=
  .tu (.of upd_same) (t.stay (.of (same_new nl)))
theorem GoodL.mem {ws : List (List Int)} (h : GoodL ws) {i : Nat} {w : List Int} (e : ws[i]? = Option.some w) : IsWork w := h.work w (List.mem_of_getElem? e)
theorem GoodL.lt {ws : List (List Int)} (h : GoodL ws) : (barD ws).length ≤ 1000 := by
  have := h.few
  rw [List.length_map]
  omega
/-- what the class has -/
structure LC (K : PySem.W.Frag) (mg : Str → Option Value) (C : Addr) : Prop where
  cl : Cls K C
  nW : NoAttr K C "_works"
  nB : NoAttr K C "_bars"
  nR : NoAttr K C "_reach"
  mgC : mg "Line" = some (.ref C)
end Sg
set_option Elab.async false
set_option linter.all false
set_option maxRecDepth 100000
set_option maxHeartbeats 4000000
namespace Sg
open PySem PySem.Spec PyProof.Rows L2
/-! ## a tuple times 0, 1 or more -/
theorem tuple_mulOne (l : Addr) (items : Array Value) (n : Nat) (dd : Option Addr) (sl : Array (Option Value)) (u : Tok) :
    Meets (Builtin.«tuple.__mul__» ⟨[.ref l, .int 1 u], []⟩) (fun _ R s => s.heap.get? l = some { cls := .type "tuple", dict := dd, data := .seq items n, slots := sl } ∧ R (.ok (.ret (Value.ref l))) s) :=
  .of_wp fun prog w A R s h => by
    obtain ⟨hp, g, d, tk, os⟩ := s
    obtain ⟨hl, h⟩ := h
    have f1 := AutoSeq1.idx_int
    have ht : Shared.TypeIs ⟨hp, g, d, tk, os⟩ (.ref l) "tuple" := ⟨_, hl, rfl⟩
    wp_walk using wpAny_loadPart' hl, wpAny_typeOf ht
    repeat (first
      | (refine wpAny_ite_true (by rw [Bool.or_eq_true]; exact .inr rfl) ?_; wp_walk using wpAny_loadPart' hl, wpAny_typeOf ht)
      | (refine wpAny_ite_true rfl ?_; wp_walk using wpAny_loadPart' hl, wpAny_typeOf ht)
      | (refine wpAny_ite_false (by decide) ?_; wp_walk using wpAny_loadPart' hl, wpAny_typeOf ht))
    exact ⟨_, rfl, h⟩
theorem tuple_mulNone (l : Addr) (items : Array Value) (n : Nat) (dd : Option Addr) (sl : Array (Option Value)) (u : Tok) (c1 : items.isEmpty = false) :
    Meets (Builtin.«tuple.__mul__» ⟨[.ref l, .int 0 u], []⟩) (fun _ R s => s.heap.get? l = some { cls := .type "tuple", dict := dd, data := .seq items n, slots := sl } ∧
      R (.ok (.ret (Value.ref s.heap.objs.size))) { s with heap := s.heap.push { cls := Value.type "tuple", data := Data.seq #[] }, toks := s.toks }) :=
  .of_wp fun prog w A R s h => by
    obtain ⟨hp, g, d, tk, os⟩ := s
    obtain ⟨hl, h⟩ := h
    have f1 := AutoSeq1.idx_int
    have c2 : (items.isEmpty || (0 : Int) == 1) = false := by rw [c1]; rfl
    wp_walk using wpAny_loadPart' hl
    repeat (first
      | (refine wpAny_ite_false (by rw [c2]; exact Bool.false_ne_true) ?_; wp_walk using wpAny_loadPart' hl)
      | (refine wpAny_ite_true rfl ?_; wp_walk using wpAny_loadPart' hl)
      | (refine wpAny_ite_false (by decide) ?_; wp_walk using wpAny_loadPart' hl))
    exact ⟨_, rfl, h⟩
def rRepN (K : PySem.W.Frag) : R2 := fun x y H Q => ∃ (l : Addr) (k : Nat) (xs : List V), x = .ref l ∧ y = .int k ∧ SqT K H l xs ∧ xs ≠ [] ∧ k ≤ 1000 ∧ xs.length ≤ 1000 ∧
  (k = 1 → Q (.ref l) H) ∧ (k ≠ 1 → ∀ p, H p = none → Q (.ref p) (upd H p (.tup (List.replicate k xs).flatten)))
theorem op_repN {X : Cx} : OpR X (binaryOp .Mult) (rRepN X.K) := by
  intro pins s σ H x y v u Q I rx ry h
  obtain ⟨l, k, xs, rfl, rfl, hT, hne, h2, hz, q1, q2⟩ := h
  by_cases h1 : 2 ≤ k
  · refine op_repT pins s σ H _ _ v u Q I rx ry ⟨l, k, xs, rfl, rfl, hT, hne, by omega, by omega, hz, fun p np => ?_⟩
    rw [Int.toNat_natCast]
    exact q2 (by omega) p np
  cases rx
  obtain ⟨t, rfl⟩ := ry
  obtain ⟨its, r, ⟨⟨cls, dd, data, sl⟩, ho, hc, n, hd⟩, hs⟩ := I.tuple hT
  simp only at hc hd
  subst hc hd
  have hle : its.length = xs.length := r.length.symm
  have hn : its ≠ [] := fun e => hne (by
    rw [e] at hle
    exact List.eq_nil_of_length_eq_zero hle.symm)
  have hi : its.toArray.isEmpty = false := by
    cases its with
    | nil => exact absurd rfl hn
    | cons a b => rfl
  rcases (show k = 0 ∨ k = 1 by omega) with rfl | rfl
  · refine wpAny_binaryOp_repeat_ref (T := "tuple") (U := "int") (by decide) ⟨_, ho, rfl⟩ (fun s' => typeIs_int s' _ t) noFill_tuple_mul F.fills_int_mul F.slot_int_rmul repeat_tuple PySem.F.slot_int_index.lookup
      (call_meets F.slot_int_rmul (typeIs_int s _ t) F.entry_int_rmul (F.args_int_rmul_2 _ _) (int_rmul_tuple _ t l its.toArray n dd sl)
        ⟨ho, rfl, ⟨_, ho, rfl⟩, call_meets F.slot_tuple_mul ⟨_, ho, rfl⟩ F.entry_tuple_mul (F.args_tuple_mul_2 _ _) (tuple_mulNone l its.toArray n dd sl t hi) ⟨ho, ?_⟩⟩)
    refine ⟨.ref s.heap.objs.size, _, I.laid (t' := s.toks) (o := .tup (List.replicate 0 xs).flatten) (fun b ob q => Heap.get?_push_of_some _ q) (Nat.le_refl _) ?_, rfl, q2 (by decide) _ (I.hok.fresh (Nat.le_refl _))⟩
    exact ⟨Nat.zero_le _, [], .nil, IsTup.new _ _⟩
  · refine wpAny_binaryOp_repeat_ref (T := "tuple") (U := "int") (by decide) ⟨_, ho, rfl⟩ (fun s' => typeIs_int s' _ t) noFill_tuple_mul F.fills_int_mul F.slot_int_rmul repeat_tuple PySem.F.slot_int_index.lookup
      (call_meets F.slot_int_rmul (typeIs_int s _ t) F.entry_int_rmul (F.args_int_rmul_2 _ _) (int_rmul_tuple _ t l its.toArray n dd sl)
        ⟨ho, rfl, ⟨_, ho, rfl⟩, call_meets F.slot_tuple_mul ⟨_, ho, rfl⟩ F.entry_tuple_mul (F.args_tuple_mul_2 _ _) (tuple_mulOne l its.toArray n dd sl t) ⟨ho, ?_⟩⟩)
    exact ⟨.ref l, H, I, rfl, q1 rfl⟩
/-- .. asked once for all -/
def rRepS (K : PySem.W.Frag) : R2 := fun x y H Q => ∃ (l : Addr) (k : Nat) (xs : List V), x = .ref l ∧ y = .int k ∧ SqT K H l xs ∧ xs ≠ [] ∧ k ≤ 1000 ∧ xs.length ≤ 1000 ∧
  ∀ H' u, Same H H' → SqT K H' u (List.replicate k xs).flatten → Q (.ref u) H'
theorem op_repS {X : Cx} : OpR X (binaryOp .Mult) (rRepS X.K) := by
  intro pins s σ H x y v u Q I rx ry h
  obtain ⟨l, k, xs, rfl, rfl, hT, hne, h2, hz, q⟩ := h
  refine op_repN pins s σ H _ _ v u Q I rx ry ⟨l, k, xs, rfl, rfl, hT, hne, h2, hz, fun z => q H l (fun _ _ h => h) ?_, fun _ p np => q _ p (same_new np) (.of upd_same)⟩
  subst z
  rw [show (List.replicate 1 xs).flatten = xs from by simp]
  exact hT
/-! ## a part of a tuple, the whole of it too -/
end Sg
set_option Elab.async false
set_option linter.all false
set_option maxRecDepth 100000
set_option maxHeartbeats 4000000
namespace Sg
open PySem PySem.Spec PyProof.Rows L2
theorem tup_upd {K : PySem.W.Frag} {H : Hp} {p a : Addr} {xs : List V} {u o : HO} (hp : H p = some u) (hu : ∀ ys, HO.tup ys ≠ u) (hv : ∀ ob ys, HO.frz ob (.tup ys) ≠ u) (h : SqT K H a xs) : SqT K (upd H p o) a xs := by
  rcases h with (h | ⟨ob, h⟩) | h
  · exact .inl (.inl (by rw [upd_ne (ne_of h hp (hu _))]; exact h))
  · exact .inl (.inr ⟨ob, by rw [upd_ne (ne_of h hp (hv _ _))]; exact h⟩)
  · exact .inr h
theorem ixN_nat {n j : Nat} (h : j < n) : ixN n (j : Int) = some j := by
  unfold ixN
  rw [if_pos (by omega), if_pos (by omega), Int.toNat_natCast]
theorem ixN_end {n : Nat} (h : 0 < n) : ixN n (-1) = some (n - 1) := by
  unfold ixN
  rw [if_neg (by decide), if_pos (by omega)]
  congr 1
  omega
theorem mem_set {l : List Int} {i : Nat} {v x : Int} (h : x ∈ l.set i v) : x = v ∨ x ∈ l := by
  rcases List.mem_or_eq_of_mem_set h with z | z
  · exact .inr z
  · exact .inl z
theorem eraseIdx_map {f : Int → V} : ∀ (l : List Int) (j : Nat), (l.map f).eraseIdx j = (l.eraseIdx j).map f
  | [], _ => by simp
  | _ :: _, 0 => by simp
  | a :: r, j + 1 => by
    rw [List.map_cons, List.eraseIdx_cons_succ, List.eraseIdx_cons_succ, List.map_cons, eraseIdx_map r j]
theorem set_at {l : List Int} {i j : Nat} {v x : Int} (h : (l.set i v)[j]? = some x) : x = v ∨ (i ≠ j ∧ l[j]? = some x) := by
  by_cases e : i = j
  · have hm := List.mem_of_getElem? h
    subst e
    rw [List.getElem?_set_self'] at h
    left
    cases hl : l[i]? with
    | none =>
      rw [hl] at h
      exact nomatch h
    | some y =>
      rw [hl] at h
      exact (Option.some.inj h).symm
  · rw [List.getElem?_set_ne e] at h
    exact .inr ⟨e, h⟩
theorem PenAt.new {H : Hp} {p l : Addr} {o : HO} (h : PenAt H p) (n : H l = none) : PenAt (L2.upd H l o) p := h.upd (h.ne n)
theorem cut_to (xs : List V) (d : Nat) : cutV xs none (some (d : Int)) = xs.take d := by
  unfold cutV
  rw [HT.sIx_nat, HT.sIx_none]
  show (xs.drop 0).take (min d xs.length - 0) = _
  rw [List.drop_zero, Nat.sub_zero]
  rcases Nat.le_total d xs.length with h | h
  · rw [Nat.min_eq_left h]
  · rw [Nat.min_eq_right h, List.take_of_length_le h, List.take_of_length_le (Nat.le_refl _)]
theorem freeS {H H' : Hp} {t : Addr} (e : Same H H') (n : H' t = none) : H t = none := by
  rcases z : H t with _ | o
  · rfl
  · rw [e _ _ z] at n
    exact nomatch n
theorem cr_sumT {X : Cx} (hc : X.calm = true) : CallR X (.builtin "sum") (fun vs H Q => ∃ (a : Addr) (ns : List Int), vs = [.ref a] ∧ SqT X.K H a (ns.map V.int) ∧ Q (.int ns.sum) H) := by
  intro pins s σ H vs us Q I r h
  obtain ⟨a, ns, rfl, hs, q⟩ := h
  obtain ⟨its, rv, ht, hz⟩ := I.tuple hs
  rw [Vals.ref1 r]
  obtain ⟨xs, e⟩ := rv.ints.allInts.items
  have hn : numsOf (intItems xs).toList = ns := by rw [← e]; exact rv.ints.numsOf
  rw [nums_intItems] at hn
  rw [e] at ht
  refine PySem.W.ktm_sumG (I.ok.hd hc) ht fun h' tk t' hk => ?_
  refine ⟨.int ns.sum, H, I.kept hk, ⟨t', ?_⟩, q⟩
  rw [preSum_eq, List.take_of_length_le (by simp), hn]
end Sg
set_option Elab.async false
set_option linter.all false
set_option maxRecDepth 100000
set_option maxHeartbeats 4000000
namespace Sg
open PySem PySem.Spec PyProof.Rows L2
/-! ## how many different tuples of ints a list has -/
theorem nodup_len_le {α : Type} [DecidableEq α] : ∀ (l D : List α), l.Nodup → (∀ x ∈ l, x ∈ D) → l.length ≤ D.length
  | [], _, _, _ => Nat.zero_le _
  | x :: r, D, h, s => by
    obtain ⟨h1, h2⟩ := List.nodup_cons.mp h
    have hx := s x List.mem_cons_self
    have := nodup_len_le r (D.erase x) h2 fun y hy => (List.mem_erase_of_ne (fun e => h1 (by rw [← e]; exact hy))).mpr (s y (List.mem_cons_of_mem _ hy))
    rw [List.length_erase_of_mem hx] at this
    have := List.length_pos_of_mem hx
    rw [List.length_cons]
    omega
theorem shorter {α : Type} [DecidableEq α] : ∀ (l : List α), ¬ l.Nodup → ∃ m : List α, m.length < l.length ∧ ∀ x ∈ l, x ∈ m
  | [], h => absurd List.nodup_nil h
  | x :: r, h => by
    by_cases hx : x ∈ r
    · refine ⟨r, Nat.lt_succ_self _, fun y hy => ?_⟩
      rcases List.mem_cons.mp hy with rfl | hy
      · exact hx
      · exact hy
    · obtain ⟨m, h1, h2⟩ := shorter r fun z => h (List.nodup_cons.mpr ⟨hx, z⟩)
      refine ⟨x :: m, Nat.succ_lt_succ h1, fun y hy => ?_⟩
      rcases List.mem_cons.mp hy with rfl | hy
      · exact List.mem_cons_self
      · exact List.mem_cons_of_mem _ (h2 y hy)
theorem met_nodup {α : Type} [DecidableEq α] {M V : List α} (h : M.Nodup) (h1 : ∀ x ∈ M, x ∈ V) (h2 : ∀ x ∈ V, x ∈ M) : M.length = V.length ↔ V.Nodup := by
  constructor
  · intro e
    by_cases z : V.Nodup
    · exact z
    · obtain ⟨m, l1, l2⟩ := shorter V z
      have := nodup_len_le M m h fun x hx => l2 x (h1 x hx)
      omega
  · intro z
    exact Nat.le_antisymm (nodup_len_le M V h h1) (nodup_len_le V M z h2)
def tLenSetT (K : PySem.W.Frag) (ta : TE) : TE := fun σ H Q => ta σ H fun x H1 => ∃ (l : Addr) (ks : List (Addr × List Int)), x = .ref l ∧ SqL K H1 l (ks.map fun p => V.ref p.1) ∧ (∀ p ∈ ks, SqT K H1 p.1 (p.2.map V.int)) ∧ ks.length < 64 ∧
  ∀ n : Nat, (n = ks.length ↔ (ks.map (·.2)).Nodup) → Q (.int n) H1
theorem pe_lenSetT {X : Cx} {K : PySem.W.Frag} {a : Expr} {ta : TE} {p p2 q pos : Pos} (hK : X.K = K) (hu : X.A.units + 3 < cLine) (g1 : Gl X "len") (m1 : X.mg "len" = none) (g2 : Gl X "set") (m2 : X.mg "set" = none) (ha : PE X a ta) (hc : X.calm = true := by rfl)
    (na : starEach [a] X.env = (false, eval a X.env) :: starEach [] X.env := by rfl) : PE X (.Call (.Name "len" p) [.Call (.Name "set" p2) [a] [] q] [] pos) (tLenSetT K ta) := by
  subst hK
  constructor
  intro pins s σ H Q I h
  refine Call_ ?_
  apply ld_blt I g1 m1 boot_len
  apply callWith_builtin1 _ rfl rfl
  apply args_cons _ rfl
  refine Call_ ?_
  apply ld_blt I g2 m2 boot_set
  apply callWith_type1 _ na rfl
  apply args_cons _ na
  refine thn (ha.run pins s σ H _ I h) ?_
  rintro v s1 ⟨x, H1, I1, r1, l, ks, rfl, hq, hk, hl, q1⟩
  cases r1
  apply args_nil
  obtain ⟨its, rv, pl, hz⟩ := I1.list hq
  refine call_set_tups (P := X.prog) (w := X.w) ks (I1.ok.hd hc) pl.isList (by simpa using refs_of_vals rv) (fun p hp => I1.isT (hk p hp)) hl hu fun h' tk L es ep t R g k => ?_
  apply args_nil
  have I2 : Inv X pins σ H1 { s1 with heap := h', toks := tk } := I1.kept k
  obtain ⟨o, ho, hex, hd⟩ := R.ob
  have sz := SetTR.size (s := { s1 with heap := h', toks := tk }) R
  refine call_len_set ho hex hd (SetTR.fits (s := { s1 with heap := h', toks := tk }) R) (by rw [sz]; have := R.few; omega) ⟨.int (L.length : Nat), H1, I2.tok _, ⟨_, by rw [sz]⟩, q1 L.length ?_⟩
  have mn := met_nodup (M := L.map (·.2)) (V := ks.map (·.2)) R.nd (fun x hx => ?_) (fun x hx => ?_)
  · rw [List.length_map, List.length_map] at mn
    exact mn
  · obtain ⟨p, hp, rfl⟩ := List.mem_map.mp hx
    exact List.mem_map.mpr ⟨p, List.mem_of_mem_take (g.sub p hp), rfl⟩
  · obtain ⟨p, hp, rfl⟩ := List.mem_map.mp hx
    exact g.all p (by rw [List.take_length]; exact hp)
end Sg
set_option Elab.async false
set_option linter.all false
set_option maxRecDepth 100000
set_option maxHeartbeats 4000000
namespace Sg
open PySem PySem.Spec PyProof.Rows L2 StX
/-! ## data compared -/
theorem eqv_ints : ∀ (xs ys : List Int), PyData.eqvAll (iD xs) (iD ys) = decide (xs = ys)
  | [], [] => by simp [PyData.eqvAll]
  | [], _ :: _ => by simp [PyData.eqvAll]
  | _ :: _, [] => by simp [PyData.eqvAll]
  | x :: xs, y :: ys => by
    show PyData.eqvAll (.int x :: iD xs) (.int y :: iD ys) = _
    rw [PyData.eqvAll, eqv_ints xs ys, PyData.eqv]
    by_cases h : x = y
    · subst h; simp
    · simp [h]
theorem eqv_tD (xs ys : List Int) : PyData.eqv (tD xs) (tD ys) = decide (xs = ys) := by
  show PyData.eqv (.tuple (iD xs)) (.tuple (iD ys)) = _
  rw [PyData.eqv, eqv_ints]
theorem eqv_tDs : ∀ (xs ys : List (List Int)), PyData.eqvAll (tDs xs) (tDs ys) = decide (xs = ys)
  | [], [] => by simp [PyData.eqvAll]
  | [], _ :: _ => by simp [PyData.eqvAll]
  | _ :: _, [] => by simp [PyData.eqvAll]
  | x :: xs, y :: ys => by
    show PyData.eqvAll (tD x :: tDs xs) (tD y :: tDs ys) = _
    rw [PyData.eqvAll, eqv_tDs xs ys, eqv_tD]
    by_cases h : x = y
    · subst h; simp
    · simp [h]
theorem lay_iD : ∀ (xs : List Int), PyData.canLayAll0 (iD xs) = true
  | [] => by simp [PyData.canLayAll0]
  | x :: r => by
    show PyData.canLayAll0 (.int x :: iD r) = true
    rw [PyData.canLayAll0, lay_iD r, PyData.canLay0]; rfl
theorem dep_iD : ∀ (xs : List Int), PyData.depthAll (iD xs) = 0
  | [] => by simp [PyData.depthAll]
  | x :: r => by
    show PyData.depthAll (.int x :: iD r) = 0
    rw [PyData.depthAll, dep_iD r, PyData.depth]; rfl
theorem shaped_tD (xs : List Int) : SeqAt.shaped (tD xs) = true := by
  unfold SeqAt.shaped
  have a : (tD xs).canLay0 = true := by show PyData.canLay0 (.tuple (iD xs)) = true; rw [PyData.canLay0, lay_iD]
  have b : (tD xs).depth ≤ 64 := by show PyData.depth (.tuple (iD xs)) ≤ 64; rw [PyData.depth, dep_iD]; decide
  rw [a, decide_eq_true b]; rfl
theorem lay_tDs : ∀ (xs : List (List Int)), PyData.canLayAll0 (tDs xs) = true
  | [] => by simp [PyData.canLayAll0]
  | x :: r => by
    show PyData.canLayAll0 (.tuple (iD x) :: tDs r) = true
    rw [PyData.canLayAll0, lay_tDs r, PyData.canLay0, lay_iD]; rfl
theorem dep_tDs : ∀ (xs : List (List Int)), PyData.depthAll (tDs xs) ≤ 1
  | [] => by simp [PyData.depthAll]
  | x :: r => by
    show PyData.depthAll (.tuple (iD x) :: tDs r) ≤ 1
    rw [PyData.depthAll, PyData.depth, dep_iD]
    exact Nat.max_le.mpr ⟨Nat.le_refl _, dep_tDs r⟩
theorem shaped_tDs (xs : List (List Int)) : SeqAt.shaped (.tuple (tDs xs)) = true := by
  unfold SeqAt.shaped
  have a : (PyData.tuple (tDs xs)).canLay0 = true := by rw [PyData.canLay0, lay_tDs]
  have b : (PyData.tuple (tDs xs)).depth ≤ 64 := by rw [PyData.depth]; have := dep_tDs xs; omega
  rw [a, decide_eq_true b]; rfl
end Sg
set_option Elab.async false
set_option linter.all false
set_option maxRecDepth 100000
set_option maxHeartbeats 4000000
set_option Elab.async false
set_option linter.all false
set_option maxRecDepth 100000
set_option maxHeartbeats 4000000
namespace Sg
open PySem PySem.Spec PyProof.Rows L2
/-! ## keys that are tuples of tuples -/
mutual
/-- the value v is the key k: an int, or a tuple of keys -/
inductive KeyAt (H : Hp) : NestedKey → V → Prop
  | int (i : Int) : KeyAt H (.num i) (.int i)
  | tup {a : Addr} {us : List V} {ks : List NestedKey} : H a = some (.tup us) → KeyAll H ks us → KeyAt H (.tup ks) (.ref a)
inductive KeyAll (H : Hp) : List NestedKey → List V → Prop
  | no : KeyAll H [] []
  | on {k : NestedKey} {v : V} {ks : List NestedKey} {us : List V} : KeyAt H k v → KeyAll H ks us → KeyAll H (k :: ks) (v :: us)
end
mutual
theorem KeyAt.keep {H H' : Hp} (e : ∀ a us, H a = some (.tup us) → H' a = some (.tup us)) : ∀ {k : NestedKey} {v : V}, KeyAt H k v → KeyAt H' k v
  | _, _, .int i => .int i
  | _, _, .tup h r => .tup (e _ _ h) (KeyAll.keep e r)
theorem KeyAll.keep {H H' : Hp} (e : ∀ a us, H a = some (.tup us) → H' a = some (.tup us)) : ∀ {ks : List NestedKey} {us : List V}, KeyAll H ks us → KeyAll H' ks us
  | _, _, .no => .no
  | _, _, .on a r => .on (KeyAt.keep e a) (KeyAll.keep e r)
end
mutual
theorem KeyAt.is {P : Program} {w : World} {H : Hp} {h : Heap} (ok : HOk P w H h) : ∀ {k : NestedKey} {v : V} {u : Value}, KeyAt H k v → RelV v u → NestedIs h k u
  | _, _, u, .int i, r => by
    obtain ⟨t, rfl⟩ := r
    exact .int i t
  | _, _, u, .tup (a := a) h' q, r => by
    obtain rfl : u = Value.ref a := r
    obtain ⟨_, its, rv, o, h1, h2, n, h3⟩ := (show ObjOk P w H h a (.tup _) from ok a _ h')
    exact .tup h1 h2 h3 (by rw [List.toList_toArray]; exact KeyAll.is ok q rv)
theorem KeyAll.is {P : Program} {w : World} {H : Hp} {h : Heap} (ok : HOk P w H h) : ∀ {ks : List NestedKey} {us : List V} {its : List Value}, KeyAll H ks us → Vals us its → NestedAll h ks its
  | _, _, _, .no, .nil => .nil
  | _, _, _, .on a r, .cons b q => .cons (KeyAt.is ok a b) (KeyAll.is ok r q)
end
/-! ## a dict with such keys: its rows (key, where the key stands, value) -/
abbrev Row := NestedKey × Addr × V
def DN (P : Program) (w : World) (a : Addr) (rs : List Row) : HO := .ext fun h => rs.length ≤ sizeLine ∧ (a == sysModules) = false ∧
  ∃ ys : List (NestedKey × Addr × Value), Paired (fun r y => r.1 = y.1 ∧ r.2.1 = y.2.1 ∧ RelV r.2.2 y.2.2) rs ys ∧
    ∃ o es ep, h.get? a = some o ∧ o.ExactDict ∧ o.data = .dict es ep ∧ es.toList = ys.map (entryOfKey (nestedKind P w)) ∧ (ys.map (·.1)).Nodup
def KeysIn (H : Hp) (rs : List Row) : Prop := ∀ r ∈ rs, KeyAt H r.1 (.ref r.2.1) ∧ r.1.depth ≤ 8
theorem KeysIn.keep {H H' : Hp} {rs : List Row} (h : KeysIn H rs) (e : ∀ a us, H a = some (.tup us) → H' a = some (.tup us)) : KeysIn H' rs := fun r hr => ⟨(h r hr).1.keep e, (h r hr).2⟩
def atN (rs : List Row) (k : NestedKey) : Option V := (rs.find? fun r => decide (r.1 = k)).map (·.2.2)
def storeN (rs : List Row) (k : NestedKey) (b : Addr) (v : V) : List Row := if (atN rs k).isSome then rs.map fun r => if r.1 = k then (r.1, r.2.1, v) else r else rs ++ [(k, b, v)]
abbrev RowRel : Row → NestedKey × Addr × Value → Prop := fun r y => r.1 = y.1 ∧ r.2.1 = y.2.1 ∧ RelV r.2.2 y.2.2
theorem atN_rel {rs : List Row} {ys : List (NestedKey × Addr × Value)} (r : Paired RowRel rs ys) (k : NestedKey) : RelO (atN rs k) ((atKey ys k).map (·.2)) := by
  induction r with
  | nil => exact True.intro
  | @cons p q ps qs h t ih =>
    by_cases e : p.1 = k
    · have e' : q.1 = k := h.1.symm.trans e
      have a : atN (p :: ps) k = some p.2.2 := by simp [atN, List.find?_cons, e]
      have b : atKey (q :: qs) k = some q.2 := by simp [atKey, List.find?_cons, e']
      rw [a, b]; exact h.2.2
    · have e' : ¬ q.1 = k := fun z => e (h.1.trans z)
      have a : atN (p :: ps) k = atN ps k := by simp [atN, List.find?_cons, e]
      have b : atKey (q :: qs) k = atKey qs k := by simp [atKey, List.find?_cons, e']
      rw [a, b]; exact ih
theorem storeN_rel {rs : List Row} {ys : List (NestedKey × Addr × Value)} (r : Paired RowRel rs ys) (k : NestedKey) (b : Addr) {v : V} {u : Value} (rv : RelV v u) : Paired RowRel (storeN rs k b v) (storedH ys k b u) := by
  have e : (atN rs k).isSome = (atKey ys k).isSome := by
    rw [(atN_rel r k).isSome_eq, Option.isSome_map]
  unfold storeN storedH
  rw [e]
  by_cases q : (atKey ys k).isSome = true
  · rw [if_pos q, if_pos q]
    clear e q
    induction r with
    | nil => exact .nil
    | @cons p z ps zs h t ih =>
      rw [List.map_cons, List.map_cons]
      refine .cons ?_ ih
      unfold putAt
      by_cases c : p.1 = k
      · rw [if_pos c, if_pos (h.1.symm.trans c)]; exact ⟨h.1, h.2.1, rv⟩
      · rw [if_neg c, if_neg (fun y => c (h.1.trans y))]; exact h
  · rw [if_neg q, if_neg q]
    exact Paired.snoc r ⟨rfl, rfl, rv⟩
theorem storeN_len (rs : List Row) (k : NestedKey) (b : Addr) (v : V) : (storeN rs k b v).length ≤ rs.length + 1 := by
  unfold storeN
  split
  · rw [List.length_map]; omega
  · rw [List.length_append]; exact Nat.le_refl _
theorem storeN_new {rs : List Row} {k : NestedKey} (h : atN rs k = none) (b : Addr) (v : V) : storeN rs k b v = rs ++ [(k, b, v)] := by
  unfold storeN
  rw [h]; rfl
section
variable {P : Program} {w : World} {H : Hp} {h : Heap} {a : Addr} {rs : List Row}
theorem dn_of (ok : HOk P w H h) (e : H a = some (DN P w a rs)) (ks : KeysIn H rs) : rs.length ≤ sizeLine ∧ (a == sysModules) = false ∧ ∃ ys, Paired RowRel rs ys ∧ h.DictOfH (nestedKind P w) a ys := by
  obtain ⟨z, y, ys, r, o, es, ep, h1, h2, h3, h4, h5⟩ := (ok a _ e).1
  refine ⟨z, y, ys, r, o, es, ep, h1, h2, h3, h4, ?_, h5⟩
  have all : ∀ {l : List Row} {m : List (NestedKey × Addr × Value)}, Paired RowRel l m → KeysIn H l → ∀ x ∈ m, (nestedKind P w).is h x.1 x.2.1 := by
    intro l m q
    induction q with
    | nil => intro _ x hx; exact nomatch hx
    | @cons p q ps qs hq t ih =>
      intro hk x hx
      rcases List.mem_cons.mp hx with e | hx
      · subst e
        obtain ⟨k1, k2⟩ := hk p List.mem_cons_self
        have := k1.is ok (u := .ref p.2.1) rfl
        rw [hq.1, hq.2.1] at this
        exact ⟨this, by rw [← hq.1]; exact k2⟩
      · exact ih (fun r hr => hk r (List.mem_cons_of_mem _ hr)) x hx
  exact all r ks
theorem dn_ok {h' : Heap} {H' : Hp} {ys : List (NestedKey × Addr × Value)} (z : rs.length ≤ sizeLine) (hd : (a == sysModules) = false) (r : Paired RowRel rs ys) (dd : h'.DictOfH (nestedKind P w) a ys) : ObjOk P w H' h' a (DN P w a rs) := by
  obtain ⟨o, es, ep, h1, h2, h3, h4, _, h5⟩ := dd
  exact ⟨⟨z, hd, ys, r, o, es, ep, h1, h2, h3, h4, h5⟩, ⟨o, h1⟩, fun g1 g2 ⟨z, hd, ys, r, o, es, ep, q1, q2⟩ k => ⟨z, hd, ys, r, o, es, ep, k o q1, q2⟩⟩
end
section
variable {X : Cx} {pins : List (Addr × Obj)} {σ : L2.St} {H : Hp} {s : Shared} {a b : Addr} {k : NestedKey} {rs : List Row} {v : V} {r : Value} {A : Around} {E : Value → Shared → Prop}
/-- the key at b is looked for in the dict at a -/
structure NAt (P : Program) (w : World) (H : Hp) (a b : Addr) (k : NestedKey) (rs : List Row) : Prop where
  at_ : H a = some (DN P w a rs)
  keys : KeysIn H rs
  key : KeyAt H k (.ref b)
  deep : k.depth ≤ 8
theorem NAt.is {P : Program} {w : World} {h : Heap} (n : NAt P w H a b k rs) (ok : HOk P w H h) : (nestedKind P w).is h k b := ⟨n.key.is ok rfl, n.deep⟩
theorem roomN (hu : A.units + 64 < cLine) (P : Program) (w : World) : (nestedKind P w).room A.in1 := by
  show A.units + 1 + 8 < cLine
  omega
theorem n_notIn {Q : Value → Shared → Prop} (hu : A.units + 64 < cLine) (I : Inv X pins σ H s) (n : NAt X.prog X.w H a b k rs) (h : ∀ s', Inv X pins σ H s' → Q (.bool (!(atN rs k).isSome)) s') : wpAny (model X.prog X.w) A (compareOp .NotIn (.ref b) (.ref a)) Q E s := by
  obtain ⟨_, hd, ys, rel, dd⟩ := dn_of I.hok n.at_ n.keys
  refine wpAny_notIn_heap (roomN hu _ _) (n.is I.hok) hd dd ?_
  have q := (atN_rel rel k).isSome_eq
  rw [Option.isSome_map] at q
  rw [← q]
  exact h _ (I.tok _)
theorem n_set {Q : Unit → Shared → Prop} (hu : A.units + 64 < cLine) (I : Inv X pins σ H s) (n : NAt X.prog X.w H a b k rs) (hl : rs.length < sizeLine) (rv : RelV v r) (h : ∀ s', Inv X pins σ (upd H a (DN X.prog X.w a (storeN rs k b v))) s' → Q () s') :
    wpAny (model X.prog X.w) A (setItem (.ref a) (.ref b) r) Q E s := by
  obtain ⟨z, hd, ys, rel, dd⟩ := dn_of I.hok n.at_ n.keys
  have hz : ys.length ≤ sizeLine := by rw [← Paired.length rel]; exact z
  refine wpAny_setItem_heap (hsz := hz) (roomN hu _ _) (n.is I.hok) dd fun h' dd' hs => h _ ?_
  have he : ∃ q, h'.get? a = some q := let ⟨q, _, _, hq, _⟩ := dd'; ⟨q, hq⟩
  exact d_write I (by rw [n.at_]; exact True.intro) hs he (dn_ok (by have := storeN_len rs k b v; omega) hd (storeN_rel rel k b rv) dd')
end
/-! ### as rules -/
def tNNotIn (P : Program) (w : World) (ty td : TE) : TE := fun σ H Q => ty σ H fun y H1 => td σ H1 fun x H2 => ∃ a b k rs, x = .ref a ∧ y = .ref b ∧ NAt P w H2 a b k rs ∧ Q (.bl (!(atN rs k).isSome)) H2
def sNPut (P : Program) (w : World) (td ty tv : TE) : TS := fun D σ H => tv σ H fun v H1 => td σ H1 fun x H2 => ty σ H2 fun y H3 => ∃ a b k rs, x = .ref a ∧ y = .ref b ∧ NAt P w H3 a b k rs ∧ rs.length < sizeLine ∧
  D.nx σ (upd H3 a (DN P w a (storeN rs k b v)))
section
variable {X : Cx} {o i e value : Expr} {pos pos' : Pos} {td ty tv : TE}
theorem NAt.typeIs {pins : List (Addr × Obj)} {σ : L2.St} {H : Hp} {s : Shared} {a b : Addr} {k : NestedKey} {rs : List Row} (n : NAt X.prog X.w H a b k rs) (I : Inv X pins σ H s) : s.TypeIs (.ref a) "dict" := by
  obtain ⟨_, _, ys, _, dd⟩ := dn_of I.hok n.at_ n.keys
  exact dd.typeIs
theorem pc_nnotin (hu : X.A.units + 64 < cLine) (hi : PE X i ty) (ho : PE X o td) : PC X .NotIn i o (tNNotIn X.prog X.w ty td) := by
  refine ⟨fun pins s σ H Q I h => ?_⟩
  refine thn (hi.run pins s σ H _ I h) fun iv s1 ⟨y, H1, I1, ry, q1⟩ => thn (ho.run pins s1 σ H1 _ I1 q1) fun u s2 ⟨x, H2, I2, rx, a, b, k, rs, ex, ey, n, q2⟩ => ?_
  subst ex ey
  obtain rfl : u = Value.ref a := rx
  obtain rfl : iv = Value.ref b := ry
  exact n_notIn hu I2 n fun s3 I3 => ⟨.bl _, H2, I3, rfl, q2⟩
theorem ps_nput (hu : X.A.units + 64 < cLine) (ho : PE X o td) (hi : PE X i ty) (hv : PE X value tv) (hs : swapsWith value (some (.Subscript o i pos')) pos.line X.env = pure false) :
    PS X (.Assign [.Subscript o i pos'] value pos) (sNPut X.prog X.w td ty tv) := by
  refine ⟨fun pins s σ H D I h => ?_⟩
  refine wpAny_Assign_Subscript (thn (hv.run pins s σ H _ I h) fun r s1 ⟨v, H1, I1, rv, q1⟩ => thn (ho.run pins s1 σ H1 _ I1 q1) fun u s2 ⟨x, H2, I2, rx, q2⟩ => thn (hi.run pins s2 σ H2 _ I2 q2) fun iv s3 ⟨y, H3, I3, ry, a, b, k, rs, ex, ey, n, hl, q3⟩ => ?_) hs
  subst ex ey
  obtain rfl : u = Value.ref a := rx
  obtain rfl : iv = Value.ref b := ry
  exact n_set hu I3 n hl rv fun s4 I4 => ⟨σ, _, I4, q3⟩
/-- {} -/
def tNNew (P : Program) (w : World) : TE := fun _ H Q => ∀ p, H p = none → Q (.ref p) (upd H p (DN P w p []))
theorem dn_empty {P : Program} {w : World} {H : Hp} (h : Heap) (hb : sysModules < h.objs.size) : ObjOk P w H (h.push { cls := .type "dict", data := .dict #[] }) h.objs.size (DN P w h.objs.size []) :=
  dn_ok (Nat.zero_le _) (beq_eq_false_iff_ne.mpr (Nat.ne_of_gt hb)) .nil (Heap.DictOfH.new h)
end
section
variable {X : Cx} {pos : Pos}
theorem pe_nnew : PE X (.Dict [] [] pos) (tNNew X.prog X.w) := ⟨fun pins s σ H Q I h =>
  wpAny_Dict_empty ⟨.ref s.heap.objs.size, _, I.laid (a := s.heap.objs.size) (o := DN X.prog X.w s.heap.objs.size []) (t' := s.toks) (fun _ _ q => Heap.get?_push_of_some _ q) (Nat.le_refl _) (dn_empty s.heap I.big), rfl, h _ (I.hok.fresh (Nat.le_refl _))⟩⟩
/-! ## sorted(list of data that are alike) -/
theorem each_vals {pins : List (Addr × Obj)} {σ : L2.St} {H : Hp} {s : Shared} (I : Inv X pins σ H s) : ∀ {ys : List V} {ds : List PyData} {its : List Value}, DpAll X.K H ys ds → Vals ys its →
    PySem.W.EachIs (fun u (b : V × PyData) => RelV b.1 u) its (ys.zip ds) ∧ PySem.W.EachIs (fun u (b : V × PyData) => ∃ as, Reads s.heap u b.2 as) its (ys.zip ds)
  | _, _, _, .nil, .nil => ⟨.nil, .nil⟩
  | _, _, _, .cons a r, .cons b q => by
    obtain ⟨h1, h2⟩ := each_vals I r q
    exact ⟨.cons b h1, .cons (Dp.reads I _ _ _ a b) h2⟩
theorem vals_each {its : List Value} {bs : List (V × PyData)} (h : PySem.W.EachIs (fun u (b : V × PyData) => RelV b.1 u) its bs) : Vals (bs.map (·.1)) its := by
  induction h with
  | nil => exact .nil
  | cons a r ih => exact .cons a ih
def rSortedD (K : PySem.W.Frag) : List V → Hp → VK → Prop := fun xs H Q => ∃ (a : Addr) (ys : List V) (ds : List PyData), xs = [.ref a] ∧ SqL K H a ys ∧ DpAll K H ys ds ∧ PySem.W.AllAlike ds ∧ PySem.W.Sortable ds ∧ (∀ d ∈ ds, d.depth ≤ 40) ∧
  ∀ (bs : List (V × PyData)) (p : Addr), bs = (ys.zip ds).mergeSort (PySem.W.dataLe false (·.2)) → H p = none → Q (.ref p) (upd H p (.lst (bs.map (·.1))))
theorem dpAll_len {K : PySem.W.Frag} {H : Hp} : ∀ {ys : List V} {ds : List PyData}, DpAll K H ys ds → ys.length = ds.length
  | _, _, .nil => rfl
  | _, _, .cons _ r => congrArg (· + 1) (dpAll_len r)
theorem zip_snd {α β : Type} : ∀ {xs : List α} {ys : List β}, xs.length = ys.length → (xs.zip ys).map (·.2) = ys
  | [], [], _ => rfl
  | x :: xs, y :: ys, h => by
    show y :: (xs.zip ys).map (·.2) = y :: ys
    rw [zip_snd (Nat.succ.inj h)]
theorem cr_sortedD {j : Nat} (hr : Room j X.A) : CallR X (.builtin "sorted") (rSortedD X.K) := by
  intro pins s σ H xs us Q I r h
  obtain ⟨a, ys, ds, rfl, hs, hd, hal, hso, hdp, q⟩ := h
  rw [Vals.ref1 r]
  obtain ⟨its, rv, hl, hz⟩ := I.list hs
  obtain ⟨h1, h2⟩ := each_vals I hd rv
  have ln := dpAll_len hd
  have e2 := zip_snd ln
  have hu := hr.units
  refine PySem.W.sorted_data (enc := fun b : V × PyData => b.2) hl.isList h1 h2 (by rw [e2]; exact hal) (by rw [e2]; exact hso) (by rw [List.length_zip, ← ln, Nat.min_self]; exact hz) (fun b hb => ?_) fun out lo eo => ?_
  · have := hdp b.2 (by rw [← e2]; exact List.mem_map.mpr ⟨b, hb, rfl⟩)
    omega
  obtain ⟨c, hc⟩ := sortedAll_at s.heap its out.toArray
  have hv := vals_each eo
  have hlen : (((ys.zip ds).mergeSort (PySem.W.dataLe false fun b : V × PyData => b.2)).map (·.1)).length ≤ sizeLine := by
    rw [List.length_map, List.length_mergeSort, List.length_zip, ← ln, Nat.min_self]; exact hz
  exact ⟨.ref (s.heap.objs.size + 1), _, I.laid (t' := s.toks) (fun _ _ e => sortedAll_old e) (Nat.le_succ _) (show ObjOk X.prog X.w _ _ _ (.lst _) from ⟨hlen, out, c, hv, hc⟩), rfl, q _ _ rfl (I.hok.fresh (Nat.le_succ _))⟩
/-! ## in, not in a tuple of data -/
end
section
variable {X : Cx} {P : Program} {w : World} {o i e value : Expr} {pos pos' : Pos} {td ty tv : TE}
/-! the same, with program and world named -/
theorem pe_nnewK (hP : X.prog = P) (hw : X.w = w) : PE X (.Dict [] [] pos) (tNNew P w) := by subst hP hw; exact pe_nnew
theorem pc_nnotinK (hP : X.prog = P) (hw : X.w = w) (hu : X.A.units + 64 < cLine) (hi : PE X i ty) (ho : PE X o td) : PC X .NotIn i o (tNNotIn P w ty td) := by subst hP hw; exact pc_nnotin hu hi ho
theorem ps_nputK (hP : X.prog = P) (hw : X.w = w) (hu : X.A.units + 64 < cLine) (ho : PE X o td) (hi : PE X i ty) (hv : PE X value tv) (hs : swapsWith value (some (.Subscript o i pos')) pos.line X.env = pure false) :
    PS X (.Assign [.Subscript o i pos'] value pos) (sNPut P w td ty tv) := by subst hP hw; exact ps_nput hu ho hi hv hs
end
end Sg
set_option Elab.async false
set_option linter.all false
set_option maxRecDepth 100000
set_option maxHeartbeats 4000000
set_option Elab.async false
set_option linter.all false
set_option maxRecDepth 100000
set_option maxHeartbeats 4000000
namespace Sg
open PySem PySem.Spec PyProof.Rows L2
/-! ## any data -/
mutual
theorem Dp.same {K : PySem.W.Frag} {H H' : Hp} (e : Same H H') : ∀ {v : V} {d : PyData}, Dp K H v d → Dp K H' v d
  | _, _, .non => .non
  | _, _, .bl b => .bl b
  | _, _, .int i => .int i
  | _, _, .str x => .str x
  | _, _, .lst h r => .lst (e.seq h) (DpAll.same e r)
  | _, _, .tup h r => .tup (Same.tup e h) (DpAll.same e r)
theorem DpAll.same {K : PySem.W.Frag} {H H' : Hp} (e : Same H H') : ∀ {vs : List V} {ds : List PyData}, DpAll K H vs ds → DpAll K H' vs ds
  | _, _, .nil => .nil
  | _, _, .cons a r => .cons (Dp.same e a) (DpAll.same e r)
end
theorem DpAll.len {K : PySem.W.Frag} {H : Hp} : ∀ {vs : List V} {ds : List PyData}, DpAll K H vs ds → vs.length = ds.length
  | _, _, .nil => rfl
  | _, _, .cons _ r => congrArg (· + 1) (DpAll.len r)
theorem DpAll.at {K : PySem.W.Frag} {H : Hp} : ∀ {vs : List V} {ds : List PyData} {i : Nat} {v : V}, DpAll K H vs ds → vs[i]? = some v → ∃ d, ds[i]? = some d ∧ Dp K H v d
  | _, _, _, _, .nil, h => nomatch h
  | _, _, 0, _, .cons a _, h => by cases h; exact ⟨_, rfl, a⟩
  | _, _, i + 1, _, .cons _ r, h => DpAll.at (i := i) r h
theorem DpAll.mem {K : PySem.W.Frag} {H : Hp} {vs : List V} {ds : List PyData} (h : DpAll K H vs ds) {v : V} (hv : v ∈ vs) : ∃ d ∈ ds, Dp K H v d := by
  obtain ⟨i, hi⟩ := List.mem_iff_getElem?.mp hv
  obtain ⟨d, h1, h2⟩ := DpAll.at h hi
  exact ⟨d, List.mem_of_getElem? h1, h2⟩
/-! ints and tuples of them: nothing that changes is read -/
/-- a dict: empty, or one int for one value of ints and tuples -/
inductive DicD (K : PySem.W.Frag) (H : Hp) : List (L2.Key × V) → List (PyData × PyData) → Prop
  | no : DicD K H [] []
  | one {i : Int} {v : V} {d : PyData} : Tp K H v d → DicD K H [(.inl i, v)] [(.int i, d)]
/-- any data: a dict at most on top -/
inductive Aq (K : PySem.W.Frag) (H : Hp) : V → PyData → Prop
  | data {v : V} {d : PyData} : Dp K H v d → Aq K H v d
  | dic {a : Addr} {kvs : List (L2.Key × V)} {ds : List (PyData × PyData)} : H a = some (.dK kvs) → DicD K H kvs ds → Aq K H (.ref a) (.dict ds)
theorem Aq.same {K : PySem.W.Frag} {H H' : Hp} (e : Same H H') {v : V} {d : PyData} (h : Aq K H v d) : Aq K H' v d := by
  cases h with
  | data h => exact .data (Dp.same e h)
  | dic h g =>
    refine .dic (e _ _ h) ?_
    cases g with
    | no => exact .no
    | one t => exact .one (t.stay (.of e))
/-- what may be shown -/
structure GoodD (d : PyData) : Prop where
  sh : d.showable = true
  dp : d.depth ≤ 40
  lv : d.leavesShort 24 = true
  bk : d.bulk ≤ 400000
/-- some data that may be shown -/
def AnyV (K : PySem.W.Frag) (H : Hp) (v : V) : Prop := ∃ d, Aq K H v d ∧ GoodD d
theorem AnyV.same {K : PySem.W.Frag} {H H' : Hp} (e : Same H H') {v : V} (h : AnyV K H v) : AnyV K H' v := by
  obtain ⟨d, h1, h2⟩ := h
  exact ⟨d, h1.same e, h2⟩
def AllAny (K : PySem.W.Frag) (H : Hp) (vs : List V) : Prop := ∀ v ∈ vs, AnyV K H v
theorem AllAny.same {K : PySem.W.Frag} {H H' : Hp} (e : Same H H') {vs : List V} (h : AllAny K H vs) : AllAny K H' vs := fun v hv => (h v hv).same e
theorem AllAny.nil {K : PySem.W.Frag} {H : Hp} : AllAny K H [] := fun _ h => nomatch h
theorem AllAny.cons {K : PySem.W.Frag} {H : Hp} {v : V} {vs : List V} (h : AnyV K H v) (g : AllAny K H vs) : AllAny K H (v :: vs) := fun u hu => (List.mem_cons.mp hu).elim (fun e => e ▸ h) (g u)
end Sg
set_option Elab.async false
set_option linter.all false
set_option maxRecDepth 100000
set_option maxHeartbeats 4000000
namespace Sg
open PySem PySem.Spec PyProof.Rows L2
/-! ## isinstance of any data -/
def tyN : PyData → String
  | .none => "NoneType"
  | .bool _ => "bool"
  | .int _ => "int"
  | .str _ => "str"
  | .list _ => "list"
  | .tuple _ => "tuple"
  | .dict _ => "dict"
theorem tyL {K : PySem.W.Frag} {H : Hp} {a : Addr} {xs : List V} (h : SqL K H a xs) : TyX K H (.ref a) (.type "list") := by
  rcases h with (h | ⟨o, h⟩) | ⟨o, _, _, h, hc, _⟩
  · exact .base (.lst h)
  · exact .base (.frz h)
  · exact .kList h hc
theorem aq_ty {K : PySem.W.Frag} {H : Hp} {v : V} {d : PyData} (h : Aq K H v d) : TyX K H v (.type (tyN d)) := by
  cases h with
  | dic h _ => exact .base (.dK h)
  | data h =>
    cases h with
    | non => exact .base .non
    | bl b => exact .base (.bl b)
    | int i => exact .base (.int i)
    | str x => exact .base (.str x)
    | lst h _ => exact tyL h
    | tup h _ => exact tyT h
def isS (u t : String) : Bool := decide (t = u) || (decide (u = "int") && decide (t = "bool"))
def isB (u : String) (d : PyData) : Bool := isS u (tyN d)
theorem tyN_mem (d : PyData) : tyN d ∈ ["NoneType", "bool", "int", "str", "list", "tuple", "dict"] := by
  cases d <;> simp [tyN]
theorem kit_table : ∀ t ∈ ["NoneType", "bool", "int", "str", "list", "tuple", "dict"], ∀ u ∈ ["tuple", "int", "bool", "str", "list"], kitB t u = some (isS u t) := by decide +kernel
theorem isB_kit {u : String} (hu : u = "tuple" ∨ u = "int" ∨ u = "bool" ∨ u = "str" ∨ u = "list") (d : PyData) : kitB (tyN d) u = some (isB u d) :=
  kit_table _ (tyN_mem d) u (by rcases hu with rfl | rfl | rfl | rfl | rfl <;> simp)
section
variable {X : Cx}
theorem call_isiA : CallR X (.builtin "isinstance") (fun xs H Q => ∃ v d u, xs = [v, .ty u] ∧ Aq X.K H v d ∧ (u = "tuple" ∨ u = "int" ∨ u = "bool" ∨ u = "str" ∨ u = "list") ∧ Q (.bl (isB u d)) H) := by
  intro pins s σ H xs us Q I r h
  obtain ⟨v, d, u, rfl, hd, hu, q⟩ := h
  exact call_isi pins s σ H _ us Q I r ⟨v, .ty u, _, _, _, rfl, .ty _, aq_ty hd, kit_ty (isB_kit hu d), q⟩
end
/-- an int that is no bool -/
def isIntD : PyData → Bool
  | .int _ => true
  | _ => false
def betD (d : PyData) (l m : Int) : Bool := match d with
  | .int i => decide (l ≤ i) && decide (i ≤ m)
  | _ => false
/-! ## displays of constants -/
theorem PE.imp {X : Cx} {e : Expr} {t t' : TE} (h : PE X e t) (i : ∀ σ H Q, t' σ H Q → t σ H Q) : PE X e t' := ⟨fun pins s σ H Q I q => h.run pins s σ H Q I (i _ _ _ q)⟩
theorem same_refl (H : Hp) : Same H H := fun _ _ h => h
/-! ### any constant, a list of them -/
end Sg
set_option Elab.async false
set_option linter.all false
set_option maxRecDepth 100000
set_option maxHeartbeats 4000000
namespace Sg
open PySem PySem.Spec PyProof.Rows L2
/-! ## defs that are handed an exception, in an except suite -/
/-- p: the exception's place and object -/
structure FnE (P : Program) (w : World) (K : PySem.W.Frag) (mg : Str → Option Value) (base : Heap) (k : Nat) (f : Addr) (fd : FuncData) (ps : List Str) (sp : Addr × Obj → Sp) : Prop where
  arity : ∀ p vs H Q, sp p vs H Q E0 → vs.length = ps.length
  go : ∀ (A : Around) (outer : List Env) (s : Shared) (H : Hp) (args : Args) (us : List Value) (vs : List V) (Q : VK) (p : Addr × Obj),
    L2H.RoomH k A → L2H.PinOk outer H s p → Env0 P w K mg base A outer s H → BindsTo s fd args (ps.zip us) → Vals vs us → sp p vs H Q E0 →
    codeAny (model P w) A (.call (.ref f) args) (CR CX0 outer P w H s Q E0) s
section
variable {P : Program} {w : World} {K : PySem.W.Frag} {mg : Str → Option Value} {base : Heap} {k : Nat} {f : Addr}
variable {fd : FuncData} {ps : List Str} {sp : Addr × Obj → Sp}
theorem FnE.mono {j : Nat} (F : FnE P w K mg base j f fd ps sp) (h : j ≤ k) : FnE P w K mg base k f fd ps sp :=
  ⟨F.arity, fun A outer s H args us vs Q p hr => F.go A outer s H args us vs Q p (hr.mono h)⟩
end
end Sg
set_option Elab.async false
set_option linter.all false
set_option maxRecDepth 100000
set_option maxHeartbeats 4000000
namespace Sg
open PySem PySem.Spec PyProof.Rows L2
/-! ## tuples whose object is told: their methods -/
def FrzT (H : Hp) (a : Addr) (xs : List V) : Prop := ∃ ob, H a = some (.frz ob (.tup xs)) ∧ ob.cls = .type "tuple" ∧ ob.dict = none
theorem FrzT.sq {K : PySem.W.Frag} {H : Hp} {a : Addr} {xs : List V} (h : FrzT H a xs) : SqT K H a xs := by
  obtain ⟨ob, h1, _⟩ := h
  exact .inl (.inr ⟨ob, h1⟩)
theorem FrzT.same {H H' : Hp} (e : Same H H') {a : Addr} {xs : List V} (h : FrzT H a xs) : FrzT H' a xs := by
  obtain ⟨ob, h1, h2⟩ := h
  exact ⟨ob, e _ _ h1, h2⟩
theorem FrzT.but {p : Addr} {H H' : Hp} (e : But p H H') {a : Addr} {xs : List V} (h : FrzT H a xs) (n : a ≠ p) : FrzT H' a xs := by
  obtain ⟨ob, h1, h2⟩ := h
  exact ⟨ob, e _ _ n h1, h2⟩
theorem call_tupleF {X : Cx} : CallR X (.type "tuple") (fun xs H Q => ∃ p ys, xs = [.ref p] ∧ SqL X.K H p ys ∧ ∀ l ob, H l = none → ob.cls = .type "tuple" → ob.dict = none → Q (.ref l) (upd H l (.frz ob (.tup ys)))) := by
  intro pins s σ H xs us Q I r h
  obtain ⟨p, ys, e, hq, q⟩ := h
  subst e
  obtain ⟨u, eu, rx⟩ := vals1 r
  subst eu
  cases rx
  obtain ⟨its, rv, pl, hz⟩ := I.list hq
  have lv := rv.length
  refine call_tuple_list pl.isList (fun h1 kp => ?_) (by rw [List.size_toArray, ← lv]; exact hz)
  have J : Inv X pins σ H { s with heap := h1 } := I.kept (t' := s.toks) kp
  have hn : (h1.push { cls := .type "tuple", data := .seq its.toArray }).get? h1.objs.size = some { cls := .type "tuple", data := .seq its.toArray } := Heap.get?_push_size _ rfl
  have hnew : ObjOk X.prog X.w (upd H h1.objs.size (.frz { cls := .type "tuple", data := .seq its.toArray } (.tup ys))) (h1.push { cls := .type "tuple", data := .seq its.toArray }) h1.objs.size (.frz { cls := .type "tuple", data := .seq its.toArray } (.tup ys)) :=
    ⟨hn, hz, its, rv, IsTup.new _ _⟩
  exact ⟨.ref h1.objs.size, _, J.laid (t' := s.toks) (fun b o z => Heap.get?_push_of_some _ z) (Nat.le_refl _) hnew, rfl, q _ _ (J.hok.fresh (Nat.le_refl _)) rfl rfl⟩
section
variable {X : Cx} {o e : Expr} {es : List Expr} {to : TE} {t : TA} {name : Str} {apos cpos : Pos} {id : String} {r : V → List V → Hp → VK → Prop}
def tBMF (r : V → List V → Hp → VK → Prop) (to : TE) (t : TA) : TE := fun σ H Q => to σ H fun x H1 => (∃ a xs, x = .ref a ∧ FrzT H1 a xs) ∧ t σ H1 fun xs H2 => r x xs H2 Q
theorem pe_bmF (pa : PlainAttrs "tuple") (slot : Slot "tuple" name id) (hty : typeOf (.builtin id) = pure (.type "method_descriptor")) (hm : MtR X id r) (ho : PE X o to) (ha : PA X (e :: es) t)
    (hbase : attributeBase o name X.env (eval o X.env) = eval o X.env := by rfl)
    (hfew : ((backTo cpos (starEach (e :: es) X.env)).all (fun x => !x.1) && (backToKw cpos (keywordEach [] X.env)).all (fun x => x.1.isSome)
      && decide ((e :: es).length + ([] : List Keyword).length + (if ([] : List Keyword).isEmpty then 0 else 1) < 30)) = true := by rfl)
    (hline : (apos.endLine == cpos.line) = true := by rfl) (hs : starEach (e :: es) X.env = (false, eval e X.env) :: starEach es X.env := by rfl) (hplain : (backTo cpos (starEach es X.env)).any (·.1) = false := by rfl) :
    PE X (.Call (.Attribute o name apos) (e :: es) [] cpos) (tBMF r to t) := by
  constructor
  intro pins s σ H Q I h
  refine wpAny_Call_method_late hbase hfew hline rfl (thn (ho.run pins s σ H _ I h) ?_)
  rintro v s1 ⟨x, H1, I1, r1, ⟨a, xs, rfl, ob, g1, g2, g3⟩, q1⟩
  cases r1
  have hget : s1.heap.get? a = some ob := (I1.hok a _ g1).1
  refine ⟨"tuple", id, pa, slot, hty, ⟨ob, hget, g2⟩, fun b eb => ?_, ?_⟩
  · cases eb
    exact ⟨ob, hget, g3⟩
  have hA := ha.run cpos pins s1 σ H1 _ I1 q1
  rw [hs] at hA ⊢
  refine Calls.callWith_builtin (by show (false || (backTo cpos (starEach es X.env)).any (·.1)) = false; rw [hplain] <;> rfl) (Calls.evalArgs_plain (thn hA ?_))
  rintro us s2 ⟨vs, H2, I2, r2, q2⟩
  exact hm pins s2 σ H2 (.ref a) vs (.ref a) us Q I2 rfl r2 q2
/-- t.count(k), of ints -/
theorem mt_tcount : MtR X "tuple.count" (fun x xs H Q => ∃ (p : Addr) (ns : List Int) (k : Int), x = .ref p ∧ xs = [.int k] ∧ SqT X.K H p (ns.map V.int) ∧ Q (.int (ns.count k : Nat)) H) := by
  intro pins s σ H x xs v us Q I rx rxs h
  obtain ⟨p, ns, k, e1, e2, hs, q⟩ := h
  subst e1 e2
  cases rx
  obtain ⟨u, eu, ru⟩ := rxs.one
  subst eu
  obtain ⟨t, et⟩ := ru
  subst et
  obtain ⟨its, rv, ⟨⟨cls, dd, data, sl⟩, ho, hc, n, hd⟩, hlen⟩ := I.tuple hs
  simp only at hc hd
  subst hc hd
  have hi := ints_of_vals rv
  have ec : its.toArray.toList.countP (eqk k) = ns.count k := eqk_count hi
  refine call_meets PySem.F.slot_tuple_count ⟨_, ho, rfl⟩ PySem.F.entry_tuple_count (PySem.F.args_tuple_count_2 _ _)
    (SeqAt.tuple_countAt p its.toArray n dd sl (.int k t) (eqk k)) ⟨ho, fun y hy => (eqk_gives hi y (by simpa using hy)).at _ _, .int (ns.count k : Nat), H, I.tok _, ⟨s.toks, ?_⟩, q⟩
  rw [← ec]
/-! ## a tuple times a number, up to 100,000 items -/
/-! ## a text times a number -/
end
end Sg
set_option Elab.async false
set_option linter.all false
set_option maxRecDepth 100000
set_option maxHeartbeats 4000000
namespace Sg
open PySem PySem.Spec PyProof.Rows L2
/-! ## rows of data that may be shown -/
structure SmL (k : Nat) (ds : List PyData) : Prop where
  sh : PyData.showableAll ds = true
  dp : PyData.depthAll ds ≤ 38
  lv : PyData.leavesShortAll 24 ds = true
  bk : PyData.bulkAll ds ≤ k
def smB (k : Nat) (ds : List PyData) : Bool := PyData.showableAll ds && decide (PyData.depthAll ds ≤ 38) && PyData.leavesShortAll 24 ds && decide (PyData.bulkAll ds ≤ k)
theorem smL_by {k : Nat} {ds : List PyData} (h : smB k ds = true) : SmL k ds := by
  unfold smB at h
  simp only [Bool.and_eq_true, decide_eq_true_eq] at h
  exact ⟨h.1.1.1, h.1.1.2, h.1.2, h.2⟩
theorem SmL.le {k m : Nat} {ds : List PyData} (h : SmL k ds) (e : k ≤ m) : SmL m ds := ⟨h.sh, h.dp, h.lv, Nat.le_trans h.bk e⟩
theorem SmL.nil : SmL 0 [] := smL_by (by decide +kernel)
theorem SmL.cons {k m : Nat} {d : PyData} {ds : List PyData} (h : SmL k [d]) (g : SmL m ds) : SmL (k + m) (d :: ds) := by
  have h1 := h.sh; have h2 := h.dp; have h3 := h.lv; have h4 := h.bk
  simp only [PyData.showableAll, PyData.depthAll, PyData.leavesShortAll, PyData.bulkAll, Bool.and_true] at h1 h2 h3 h4
  refine ⟨?_, ?_, ?_, ?_⟩
  · simp only [PyData.showableAll, h1, g.sh, Bool.and_self]
  · simp only [PyData.depthAll]; have := g.dp; omega
  · simp only [PyData.leavesShortAll, h3, g.lv, Bool.and_self]
  · simp only [PyData.bulkAll]; have := g.bk; omega
theorem SmL.uncons {k : Nat} {d : PyData} {ds : List PyData} (h : SmL k (d :: ds)) : SmL k [d] ∧ SmL k ds := by
  have h1 := h.sh; have h2 := h.dp; have h3 := h.lv; have h4 := h.bk
  simp only [PyData.showableAll, PyData.depthAll, PyData.leavesShortAll, PyData.bulkAll, Bool.and_eq_true] at h1 h2 h3 h4
  refine ⟨⟨?_, ?_, ?_, ?_⟩, h1.2, by omega, h3.2, by omega⟩
  · simp only [PyData.showableAll, h1.1, Bool.and_self]
  · simp only [PyData.depthAll]; omega
  · simp only [PyData.leavesShortAll, h3.1, Bool.and_self]
  · simp only [PyData.bulkAll]; omega
theorem SmL.drop {k : Nat} : ∀ {ds : List PyData} (i : Nat), SmL k ds → SmL k (ds.drop i)
  | _, 0, h => h
  | [], _ + 1, h => h
  | _ :: _, i + 1, h => SmL.drop i h.uncons.2
theorem SmL.take {k : Nat} : ∀ {ds : List PyData} (i : Nat), SmL k ds → SmL k (ds.take i)
  | _, 0, h => by rw [List.take_zero]; exact SmL.nil.le (Nat.zero_le _)
  | [], _ + 1, h => h
  | d :: ds, i + 1, h => by
    have h4 := h.bk
    simp only [PyData.bulkAll] at h4
    have u := h.uncons
    have t := SmL.take (k := PyData.bulkAll ds) i ⟨u.2.sh, u.2.dp, u.2.lv, Nat.le_refl _⟩
    have j := SmL.cons (k := PyData.bulk d + 1) ⟨u.1.sh, u.1.dp, u.1.lv, by simp only [PyData.bulkAll]; omega⟩ t
    exact j.le h4
theorem SmL.tup {k : Nat} {ds : List PyData} (h : SmL k ds) (e : k ≤ 400000) : GoodD (.tuple ds) :=
  ⟨by simp only [PyData.showable, h.sh], by simp only [PyData.depth]; have := h.dp; omega, by simp only [PyData.leavesShort, h.lv], by simp only [PyData.bulk]; exact Nat.le_trans h.bk e⟩
theorem SmL.lst {k : Nat} {ds : List PyData} (h : SmL k ds) (e : k ≤ 400000) : GoodD (.list ds) :=
  ⟨by simp only [PyData.showable, h.sh], by simp only [PyData.depth]; have := h.dp; omega, by simp only [PyData.leavesShort, h.lv], by simp only [PyData.bulk]; exact Nat.le_trans h.bk e⟩
theorem SmL.one {d : PyData} {k : Nat} (h : GoodD d) (e : d.depth ≤ 38) (b : d.bulk + 1 ≤ k) : SmL k [d] :=
  ⟨by simp only [PyData.showableAll, h.sh, Bool.and_self], by simp only [PyData.depthAll]; omega, by simp only [PyData.leavesShortAll, h.lv, Bool.and_self], by simp only [PyData.bulkAll]; omega⟩
theorem SmL.all {ds : List PyData} (h : ∀ d ∈ ds, SmL 100 [d]) : SmL (ds.length * 100) ds := by
  induction ds with
  | nil => exact SmL.nil.le (Nat.zero_le _)
  | cons d ds ih =>
    refine (SmL.cons (h d List.mem_cons_self) (ih fun x hx => h x (List.mem_cons_of_mem _ hx))).le ?_
    rw [List.length_cons, Nat.add_mul, Nat.one_mul]; omega
theorem DpAll.drop {K : PySem.W.Frag} {H : Hp} : ∀ {vs : List V} {ds : List PyData} (i : Nat), DpAll K H vs ds → DpAll K H (vs.drop i) (ds.drop i)
  | _, _, 0, h => h
  | _, _, _ + 1, .nil => .nil
  | _, _, i + 1, .cons _ r => DpAll.drop i r
theorem DpAll.take {K : PySem.W.Frag} {H : Hp} : ∀ {vs : List V} {ds : List PyData} (i : Nat), DpAll K H vs ds → DpAll K H (vs.take i) (ds.take i)
  | _, _, 0, h => by rw [List.take_zero, List.take_zero]; exact .nil
  | _, _, _ + 1, .nil => .nil
  | _, _, i + 1, .cons a r => .cons a (DpAll.take i r)
theorem DpAll.cut {K : PySem.W.Frag} {H : Hp} {vs : List V} {ds : List PyData} (h : DpAll K H vs ds) {k : Nat} (g : SmL k ds) (lo hi : Option Int) : ∃ es, DpAll K H (cutV vs lo hi) es ∧ SmL k es := by
  unfold cutV
  exact ⟨_, DpAll.take _ (DpAll.drop _ h), SmL.take _ (SmL.drop _ g)⟩
theorem mt_tcountK {X : Cx} {K : PySem.W.Frag} (hK : X.K = K) : MtR X "tuple.count" (fun x xs H Q => ∃ (p : Addr) (ns : List Int) (k : Int), x = .ref p ∧ xs = [.int k] ∧ SqT K H p (ns.map V.int) ∧ Q (.int (ns.count k : Nat)) H) := by
  subst hK; exact mt_tcount
/-! ## l != [] -/
theorem op_neNil {X : Cx} (hu : X.A.units < cLine) : OpR X (compareOp .NotEq) (fun x y H Q => ∃ a b xs, x = .ref a ∧ y = .ref b ∧ SqL X.K H a xs ∧ SqL X.K H b [] ∧ Q (.bl (!xs.isEmpty)) H) := by
  intro pins s σ H x y v u Q I rx ry h
  obtain ⟨a, b, xs, rfl, rfl, h1, h2, q⟩ := h
  cases rx
  cases ry
  obtain ⟨its, rv, pl, hz⟩ := I.list h1
  obtain ⟨its2, rv2, pl2, hz2⟩ := I.list h2
  obtain rfl : its2 = [] := by cases rv2; rfl
  cases xs with
  | nil =>
    obtain rfl : its = [] := by cases rv; rfl
    exact SeqAt.RcNeAt.lists (e := fun _ => true) pl.isList pl2.isList rfl hu (fun j h1 _ => absurd h1 (by simp)) _ _ _ _ ⟨.bl _, H, I, rfl, q⟩
  | cons x xs =>
    obtain ⟨y, its', rfl⟩ : ∃ y its', its = y :: its' := by cases rv with | cons a b => exact ⟨_, _, rfl⟩
    exact SeqAt.RcNeAt.lists_lengths pl.isList pl2.isList (by simp) hu _ _ _ _ ⟨.bl _, H, I, rfl, q⟩
end Sg
set_option Elab.async false
set_option linter.all false
set_option maxRecDepth 100000
set_option maxHeartbeats 4000000
namespace Sg
open PySem PySem.Spec PyProof.Rows L2
/-! ## rows of expressions, each of its own making -/
def tE (S : L2.St → Hp → Prop) (R : Hp → V → Prop) : TE := fun σ H Q => S σ H ∧ ∀ H' v, Same H H' → R H' v → Q v H'
section
variable {X : Cx} {S : L2.St → Hp → Prop} {R : Hp → V → Prop}
theorem PE.e {e : Expr} {t : TE} (h : PE X e t) (i : ∀ σ H Q, S σ H → (∀ H' v, Same H H' → R H' v → Q v H') → t σ H Q) : PE X e (tE S R) := PE.imp h fun σ H Q q => i σ H Q q.1 q.2
/-! ## tuples: + and slices, any of them -/
theorem op_catB {K : PySem.W.Frag} (hK : X.K = K) : OpR X (binaryOp .Add) (fun x y H Q => ∃ a b xs ys, x = .ref a ∧ y = .ref b ∧ SqT K H a xs ∧ SqT K H b ys ∧ xs.length + ys.length ≤ sizeLine ∧ ∀ H' c, Same H H' → SqT K H' c (xs ++ ys) → Q (.ref c) H') := by
  subst hK
  intro pins s σ H x y v u Q I rx ry h
  obtain ⟨a, b, xs, ys, rfl, rfl, ha, hb, hz, q⟩ := h
  refine op_catA pins s σ H _ _ v u Q I rx ry ⟨a, b, xs, ys, rfl, rfl, ha, hb, hz, fun e => q H b (same_refl H) (by rw [e]; exact hb), fun _ e => q H a (same_refl H) (by rw [e, List.append_nil]; exact ha), fun _ _ p np => q _ p (same_new np) (.of upd_same)⟩
theorem cutV_whole {xs : List V} {lo hi : Option Int} (h : HT.sIx xs.length 0 lo = 0 ∧ HT.sIx xs.length xs.length hi = xs.length) : cutV xs lo hi = xs := by
  unfold cutV
  rw [h.1, h.2, List.drop_zero, Nat.sub_zero, List.take_length]
theorem sl_tupB {K : PySem.W.Frag} (hK : X.K = K) : SlR X (fun x lo hi H Q => ∃ a xs, x = .ref a ∧ SqT K H a xs ∧ ∀ H' b, Same H H' → SqT K H' b (cutV xs lo hi) → Q (.ref b) H') := by
  subst hK
  intro pins s σ H x v vl vu lo hi sl Q I rx hs pl pu h
  obtain ⟨a, xs, rfl, hx, q⟩ := h
  exact sl_tupA pins s σ H _ v vl vu lo hi sl Q I rx hs pl pu ⟨a, xs, rfl, hx, fun hw => q H a (same_refl H) (by rw [cutV_whole hw]; exact hx), fun _ p np => q _ p (same_new np) (.of upd_same)⟩
end
/-- all but the lists of H0 -/
def wl (H0 H : Hp) : Hp := fun b => match H0 b with
  | some (.lst _) => none
  | _ => H b
/-! ## short data -/
def SmV (K : PySem.W.Frag) (H : Hp) (v : V) : Prop := ∃ d, Dp K H v d ∧ SmL 100 [d]
theorem SmV.same {K : PySem.W.Frag} {H H' : Hp} (e : Same H H') {v : V} (h : SmV K H v) : SmV K H' v := by
  obtain ⟨d, h1, h2⟩ := h
  exact ⟨d, Dp.same e h1, h2⟩
end Sg
set_option Elab.async false
set_option linter.all false
set_option maxRecDepth 100000
set_option maxHeartbeats 4000000
namespace Sg
open PySem PySem.Spec PyProof.Rows L2
/-! ## data is kept where only tables change -/
abbrev ExtN := @LamX.ExtN
theorem ext_of {H H' : Hp} (e : Same H H') : LamX.ExtN H H' := fun b o h _ => e b o h
theorem ext_tup {K : PySem.W.Frag} {H H' : Hp} {a : Addr} {xs : List V} (e : LamX.ExtN H H') (h : SqT K H a xs) : SqT K H' a xs := by
  rcases h with (h | ⟨o, h⟩) | h
  · exact .inl (.inl (e _ _ h fun ps z => nomatch z))
  · exact .inl (.inr ⟨o, e _ _ h fun ps z => nomatch z⟩)
  · exact .inr h
theorem ext_lst {K : PySem.W.Frag} {H H' : Hp} {a : Addr} {xs : List V} (e : LamX.ExtN H H') (h : SqL K H a xs) : SqL K H' a xs := by
  rcases h with (h | ⟨o, h⟩) | h
  · exact .inl (.inl (e _ _ h fun ps z => nomatch z))
  · exact .inl (.inr ⟨o, e _ _ h fun ps z => nomatch z⟩)
  · exact .inr h
mutual
theorem Dp.ext {K : PySem.W.Frag} {H H' : Hp} (e : LamX.ExtN H H') : ∀ {v : V} {d : PyData}, Dp K H v d → Dp K H' v d
  | _, _, .non => .non
  | _, _, .bl b => .bl b
  | _, _, .int i => .int i
  | _, _, .str x => .str x
  | _, _, .lst h r => .lst (ext_lst e h) (DpAll.ext e r)
  | _, _, .tup h r => .tup (ext_tup e h) (DpAll.ext e r)
theorem DpAll.ext {K : PySem.W.Frag} {H H' : Hp} (e : LamX.ExtN H H') : ∀ {vs : List V} {ds : List PyData}, DpAll K H vs ds → DpAll K H' vs ds
  | _, _, .nil => .nil
  | _, _, .cons a r => .cons (Dp.ext e a) (DpAll.ext e r)
end
mutual
theorem Tp.ext {K : PySem.W.Frag} {H H' : Hp} (e : LamX.ExtN H H') : ∀ {v : V} {d : PyData}, Tp K H v d → Tp K H' v d
  | _, _, .int i => .int i
  | _, _, .tu h r => .tu (ext_tup e h) (TpAll.ext e r)
theorem TpAll.ext {K : PySem.W.Frag} {H H' : Hp} (e : LamX.ExtN H H') : ∀ {vs : List V} {ds : List PyData}, TpAll K H vs ds → TpAll K H' vs ds
  | _, _, .no => .no
  | _, _, .on a r => .on (Tp.ext e a) (TpAll.ext e r)
end
theorem Aq.ext {K : PySem.W.Frag} {H H' : Hp} (e : LamX.ExtN H H') {v : V} {d : PyData} (h : Aq K H v d) : Aq K H' v d := by
  cases h with
  | data h => exact .data (Dp.ext e h)
  | dic h g =>
    refine .dic (e _ _ h fun ps z => nomatch z) ?_
    cases g with
    | no => exact .no
    | one t => exact .one (Tp.ext e t)
theorem AnyV.ext {K : PySem.W.Frag} {H H' : Hp} (e : LamX.ExtN H H') {v : V} (h : AnyV K H v) : AnyV K H' v := by
  obtain ⟨d, h1, h2⟩ := h
  exact ⟨d, h1.ext e, h2⟩
theorem PenAt.ext {H H' : Hp} {p : Addr} (e : LamX.ExtN H H') (h : PenAt H p) : PenAt H' p := by
  obtain ⟨a, b, c, h1, h2⟩ := h
  exact ⟨a, b, c, e _ _ h1 (fun ps z => nomatch z), h2⟩
theorem FrzT.ext {H H' : Hp} (e : LamX.ExtN H H') {a : Addr} {xs : List V} (h : FrzT H a xs) : FrzT H' a xs := by
  obtain ⟨ob, h1, h2⟩ := h
  exact ⟨ob, e _ _ h1 (fun ps z => nomatch z), h2⟩
/-! ## the code object of a def that makes lambdas -/
end Sg
set_option Elab.async false
set_option linter.all false
set_option maxRecDepth 100000
set_option maxHeartbeats 4000000
set_option Elab.async false
set_option linter.all false
set_option maxRecDepth 100000
set_option maxHeartbeats 4000000
namespace Sg
open PySem PySem.Spec PyProof.Rows L2
/-! ## short data, a dict at most on top -/
def AnyS (K : PySem.W.Frag) (H : Hp) (v : V) : Prop := ∃ d, Aq K H v d ∧ GoodD d ∧ d.bulk ≤ 900
theorem AnyS.same {K : PySem.W.Frag} {H H' : Hp} (e : Same H H') {v : V} (h : AnyS K H v) : AnyS K H' v := by
  obtain ⟨d, h1, h2⟩ := h
  exact ⟨d, h1.same e, h2⟩
theorem AnyS.ext {K : PySem.W.Frag} {H H' : Hp} (e : LamX.ExtN H H') {v : V} (h : AnyS K H v) : AnyS K H' v := by
  obtain ⟨d, h1, h2⟩ := h
  exact ⟨d, h1.ext e, h2⟩
theorem AnyS.any {K : PySem.W.Frag} {H : Hp} {v : V} (h : AnyS K H v) : AnyV K H v := by
  obtain ⟨d, h1, h2, _⟩ := h
  exact ⟨d, h1, h2⟩
def AllS (K : PySem.W.Frag) (H : Hp) (vs : List V) : Prop := ∀ v ∈ vs, AnyS K H v
theorem AllS.same {K : PySem.W.Frag} {H H' : Hp} (e : Same H H') {vs : List V} (h : AllS K H vs) : AllS K H' vs := fun v hv => (h v hv).same e
/-! ## what is no instance of an own class -/
/-! ## laps, worths: of any data -/
end Sg
set_option Elab.async false
set_option linter.all false
set_option maxRecDepth 100000
set_option maxHeartbeats 4000000
set_option Elab.async false
set_option linter.all false
set_option maxRecDepth 100000
set_option maxHeartbeats 4000000
namespace Sg
open PySem PySem.Spec PyProof.Rows L2
/-! ## data that may hold a Line: to the built-in types a Line looks as None does -/
mutual
inductive Lp (K : PySem.W.Frag) (C : Addr) (H : Hp) : V → PyData → Prop
  | non : Lp K C H .non .none
  | bl (b : Bool) : Lp K C H (.bl b) (.bool b)
  | int (i : Int) : Lp K C H (.int i) (.int i)
  | str (x : Str) : Lp K C H (.str x) (.str x)
  | lst {a : Addr} {xs : List V} {ds : List PyData} : SqL K H a xs → LpAll K C H xs ds → Lp K C H (.ref a) (.list ds)
  | tup {a : Addr} {xs : List V} {ds : List PyData} : SqT K H a xs → LpAll K C H xs ds → Lp K C H (.ref a) (.tuple ds)
  | line {a : Addr} {ws : List (List Int)} : LineAt K C H a ws → Lp K C H (.ref a) .none
  | dic {a : Addr} {kvs : List (L2.Key × V)} : H a = some (.dK kvs) → Lp K C H (.ref a) (.dict [])
inductive LpAll (K : PySem.W.Frag) (C : Addr) (H : Hp) : List V → List PyData → Prop
  | nil : LpAll K C H [] []
  | cons {v : V} {vs : List V} {d : PyData} {ds : List PyData} : Lp K C H v d → LpAll K C H vs ds → LpAll K C H (v :: vs) (d :: ds)
end
mutual
theorem Lp.ext {K : PySem.W.Frag} {C : Addr} {H H' : Hp} (e : LamX.ExtN H H') : ∀ {v : V} {d : PyData}, Lp K C H v d → Lp K C H' v d
  | _, _, .non => .non
  | _, _, .bl b => .bl b
  | _, _, .int i => .int i
  | _, _, .str x => .str x
  | _, _, .lst h r => .lst (ext_lst e h) (LpAll.ext e r)
  | _, _, .tup h r => .tup (ext_tup e h) (LpAll.ext e r)
  | _, _, .line h => .line (h.stay ⟨fun _ _ z => ext_tup e z, fun _ _ _ _ z => e _ _ z fun ps y => nomatch y⟩)
  | _, _, .dic h => .dic (e _ _ h fun ps y => nomatch y)
theorem LpAll.ext {K : PySem.W.Frag} {C : Addr} {H H' : Hp} (e : LamX.ExtN H H') : ∀ {vs : List V} {ds : List PyData}, LpAll K C H vs ds → LpAll K C H' vs ds
  | _, _, .nil => .nil
  | _, _, .cons a r => .cons (Lp.ext e a) (LpAll.ext e r)
end
theorem Lp.same {K : PySem.W.Frag} {C : Addr} {H H' : Hp} (e : Same H H') {v : V} {d : PyData} (h : Lp K C H v d) : Lp K C H' v d := h.ext (ext_of e)
theorem LpAll.same {K : PySem.W.Frag} {C : Addr} {H H' : Hp} (e : Same H H') {vs : List V} {ds : List PyData} (h : LpAll K C H vs ds) : LpAll K C H' vs ds := h.ext (ext_of e)
theorem LpAll.len {K : PySem.W.Frag} {C : Addr} {H : Hp} : ∀ {vs : List V} {ds : List PyData}, LpAll K C H vs ds → vs.length = ds.length
  | _, _, .nil => rfl
  | _, _, .cons _ r => congrArg (· + 1) (LpAll.len r)
theorem LpAll.at {K : PySem.W.Frag} {C : Addr} {H : Hp} : ∀ {vs : List V} {ds : List PyData} {i : Nat} {v : V}, LpAll K C H vs ds → vs[i]? = some v → ∃ d, ds[i]? = some d ∧ Lp K C H v d
  | _, _, _, _, .nil, h => nomatch h
  | _, _, 0, _, .cons a _, h => by cases h; exact ⟨_, rfl, a⟩
  | _, _, i + 1, _, .cons _ r, h => LpAll.at (i := i) r h
end Sg
set_option Elab.async false
set_option linter.all false
set_option maxRecDepth 100000
set_option maxHeartbeats 4000000
set_option Elab.async false
set_option linter.all false
set_option maxRecDepth 100000
set_option maxHeartbeats 4000000
set_option Elab.async false
set_option linter.all false
set_option maxRecDepth 100000
set_option maxHeartbeats 4000000
set_option Elab.async false
set_option linter.all false
set_option maxRecDepth 100000
set_option maxHeartbeats 4000000
namespace Sg
open PySem PySem.Spec PyProof.Rows L2
/-! ## heaps in lists (heapq), as the interpreter does it -/
section
variable {α : Type} (lt : α → α → Bool)
def swapH (zs : List α) (i j : Nat) : List α := match zs[i]?, zs[j]? with
  | some x, some y => (zs.set i y).set j x
  | _, _ => zs
def childH (zs : List α) (pos : Nat) : Nat := match zs[2 * pos + 1]?, zs[2 * pos + 2]? with
  | some l, some r => if lt l r then 2 * pos + 1 else 2 * pos + 2
  | _, _ => 2 * pos + 1
def downH : Nat → List α → Nat → List α × Nat
  | 0, zs, pos => (zs, pos)
  | f + 1, zs, pos => if pos < zs.length / 2 then downH f (swapH zs (childH lt zs pos) pos) (childH lt zs pos) else (zs, pos)
def upH : Nat → List α → Nat → List α
  | 0, zs, _ => zs
  | f + 1, zs, pos => if 0 < pos then (match zs[pos]?, zs[(pos - 1) / 2]? with
    | some x, some y => if lt x y then upH f (swapH zs ((pos - 1) / 2) pos) ((pos - 1) / 2) else zs
    | _, _ => zs) else zs
def pushH (zs : List α) (z : α) : List α := upH lt (zs.length + 1) (zs ++ [z]) zs.length
/-- what is left when the first is taken -/
def restH (zs : List α) : List α := match zs.getLast? with
  | none => []
  | some z => if zs.length = 1 then [] else upH lt (zs.length - 1) (downH lt zs.length (zs.dropLast.set 0 z) 0).1 (downH lt zs.length (zs.dropLast.set 0 z) 0).2
end
theorem swapH_length {α : Type} (zs : List α) (i j : Nat) : (swapH zs i j).length = zs.length := by
  unfold swapH
  split
  · rw [List.length_set, List.length_set]
  · rfl
theorem entry_hsift : entryFor table "_heapq.heapify.sift" = some PySem.Builtin.«_heapq.heapify.sift» := by kernel_rfl
theorem entry_hpush : entryFor table "_heapq.heappush" = some PySem.Builtin.«_heapq.heappush» := by kernel_rfl
theorem entry_hpop : entryFor table "_heapq.heappop" = some PySem.Builtin.«_heapq.heappop» := by kernel_rfl
theorem plain_hsift : plainId "_heapq.heapify.sift" = true := by decide +kernel
theorem plain_hpush : plainId "_heapq.heappush" = true := by decide +kernel
theorem plain_hpop : plainId "_heapq.heappop" = true := by decide +kernel
end Sg
set_option Elab.async false
set_option linter.all false
set_option maxRecDepth 100000
set_option maxHeartbeats 4000000
namespace Sg
open PySem PySem.Spec PyProof.Rows L2
section
variable {β : Type} {prog : Program} {w : World} {A : Around} {R : Result → Shared → Prop}
abbrev fstA (zs : List (Value × β)) : Array Value := (zs.map Prod.fst).toArray
/-- the list at a, in this heap -/
def LstAt (h : Heap) (a : Addr) (zs : List (Value × β)) : Prop := ∃ n, h.get? a = some { cls := .type "list", data := .seq (fstA zs) n }
/-- all but a stays -/
def StayB (a : Addr) (h h' : Heap) : Prop := (∀ b o, b ≠ a → h.get? b = some o → h'.get? b = some o) ∧ h'.objs.size = h.objs.size
theorem StayB.refl (a : Addr) (h : Heap) : StayB a h h := ⟨fun _ _ _ e => e, rfl⟩
theorem StayB.trans {a : Addr} {h h1 h2 : Heap} (x : StayB a h h1) (y : StayB a h1 h2) : StayB a h h2 := ⟨fun b o n e => y.1 b o n (x.1 b o n e), y.2.trans x.2⟩
theorem StayB.upd {a : Addr} {h : Heap} {f : Obj → Obj} : StayB a h (h.update a f) := ⟨fun b o n e => (Heap.get?_update_other _ _ (Ne.symm n)).trans e, by simp [Heap.update]⟩
/-- the items compared, while all but a stays as in h0 -/
def CmpB (prog : Program) (w : World) (A : Around) (a : Addr) (h0 : Heap) (lt : Value × β → Value × β → Bool) (S : Value × β → Prop) : Prop :=
  ∀ x y, S x → S y → ∀ (s : Shared) (Q : Value → Shared → Prop) (E : Value → Shared → Prop), StayB a h0 s.heap → Q (.bool (lt x y)) s → wpAny (model prog w) A (richCompare .Lt x.1 y.1) Q E s
theorem get_fst {zs : List (Value × β)} {i : Nat} {z : Value × β} (h : zs[i]? = some z) : (fstA zs)[i]? = some z.1 := by
  rw [List.getElem?_toArray, List.getElem?_map, h]; rfl
theorem swap_fst {zs : List (Value × β)} {i j : Nat} {x y : Value × β} (hi : zs[i]? = some x) (hj : zs[j]? = some y) : ((fstA zs).setIfInBounds i y.1).setIfInBounds j x.1 = fstA (swapH zs i j) := by
  unfold swapH
  rw [hi, hj]
  simp only [fstA, List.setIfInBounds_toArray, List.map_set]
theorem swapH_mem {γ : Type} {zs : List γ} {i j : Nat} {z : γ} (h : z ∈ swapH zs i j) : z ∈ zs := by
  unfold swapH at h
  split at h
  · rename_i x y hx hy
    rcases List.mem_or_eq_of_mem_set h with h | rfl
    · rcases List.mem_or_eq_of_mem_set h with h | rfl
      · exact h
      · exact List.mem_of_getElem? hy
    · exact List.mem_of_getElem? hx
  · exact h
/-- what the sifting is called with -/
abbrev sArgs (a : Addr) (down : Bool) (pos : Nat) (v0 : Value) : Args := ⟨[.ref a, .bool false, .bool down, rawInt ((pos : Nat) : Int), rawInt ((0 : Nat) : Int), v0, rawInt (-1)], []⟩
theorem sift_up {lt : Value × β → Value × β → Bool} {S : Value × β → Prop} {a : Addr} {h0 : Heap} {v0 : Value} (cmp : CmpB prog w A.in1 a h0 lt S) :
    ∀ (f : Nat) (zs : List (Value × β)) (pos : Nat) (s : Shared), pos < f → pos < zs.length → zs.length ≤ sizeLine → (∀ z ∈ zs, S z) → LstAt s.heap a zs → StayB a h0 s.heap →
      (∀ h', LstAt h' a (upH lt f zs pos) → StayB a h0 h' → R (.ok (.ret v0)) { s with heap := h' }) →
      codeAny (model prog w) A (.builtin "_heapq.heapify.sift" (sArgs a false pos v0)) R s
  | 0, _, _, _, hf, _, _, _, _, _, _ => absurd hf (Nat.not_lt_zero _)
  | f + 1, zs, pos, s, hf, hp, hz, hS, hl, hb, hR => by
    obtain ⟨n, ho⟩ := hl
    refine codeAny_builtin entry_hsift ?_
    rw [Around.under_plainId plain_hsift _]
    show wpAny _ A.in1 (_ >>= _) _ _ s
    refine wpAny_bind ?_
    show wpAny _ A.in1 (seqItems? (.ref a) >>= _) _ _ s
    refine wpAny_bind (wpAny_seqItems ho rfl (wpAny_pure ?_))
    have tp : ((pos : Nat) : Int).toNat = pos := Int.toNat_natCast pos
    show wpAny _ A.in1 (if ((pos : Nat) : Int).toNat > (0 : Int).toNat then _ else _) _ _ s
    rw [tp]
    by_cases h0' : 0 < pos
    · rw [if_pos (show pos > (0 : Int).toNat from h0')]
      obtain ⟨x, hx⟩ : ∃ x, zs[pos]? = some x := ⟨_, List.getElem?_eq_getElem hp⟩
      have hpp : (pos - 1) / 2 < zs.length := by omega
      obtain ⟨y, hy⟩ : ∃ y, zs[(pos - 1) / 2]? = some y := ⟨_, List.getElem?_eq_getElem hpp⟩
      have sx := hS x (List.mem_of_getElem? hx)
      have sy := hS y (List.mem_of_getElem? hy)
      show wpAny _ A.in1 (_ >>= _) _ _ s
      refine wpAny_bind ?_
      show wpAny _ A.in1 (match (fstA zs)[pos]? with | some v => pure v | none => unsupported "internal:_heapq.index") _ _ s
      rw [get_fst hx]
      refine wpAny_pure ?_
      show wpAny _ A.in1 (_ >>= _) _ _ s
      refine wpAny_bind ?_
      show wpAny _ A.in1 (match (fstA zs)[(pos - 1) / 2]? with | some v => pure v | none => unsupported "internal:_heapq.index") _ _ s
      rw [get_fst hy]
      refine wpAny_pure ?_
      show wpAny _ A.in1 (_ >>= _) _ _ s
      refine wpAny_bind ?_
      show wpAny _ A.in1 (_ >>= _) _ _ s
      refine wpAny_bind (wpAny_holding (wpAny_bind (cmp x y sx sy _ _ _ hb ?_)))
      refine wpAny_truthy_bool ?_
      refine wpAny_bind ?_
      show wpAny _ A.in1 (seqItems? (.ref a) >>= _) _ _ s
      refine wpAny_bind (wpAny_seqItems ho rfl (wpAny_pure ?_))
      show wpAny _ A.in1 (if ((fstA zs).size != (fstA zs).size) = true then _ else pure (lt x y)) _ _ s
      rw [if_neg (by simp)]
      refine wpAny_pure ?_
      show wpAny _ A.in1 (if lt x y = true then _ else _) _ _ s
      cases hlt : lt x y with
      | false =>
        rw [if_neg (by decide)]
        show wpAny _ A.in1 (ret v0) _ _ s
        refine wpAny_pure ?_
        have := hR s.heap ⟨n, by rw [show upH lt (f + 1) zs pos = zs from by unfold upH; rw [if_pos h0', hx, hy]; show (if lt x y = true then _ else zs) = zs; rw [hlt]; rfl]; exact ho⟩ hb
        exact this
      | true =>
        rw [if_pos rfl]
        show wpAny _ A.in1 (_ >>= _) _ _ s
        refine wpAny_bind ?_
        show wpAny _ A.in1 (_ >>= _) _ _ s
        refine wpAny_bind ?_
        show wpAny _ A.in1 (seqItems? (.ref a) >>= _) _ _ s
        refine wpAny_bind (wpAny_seqItems ho rfl (wpAny_pure ?_))
        show wpAny _ A.in1 (_ >>= _) _ _ s
        refine wpAny_bind ?_
        show wpAny _ A.in1 (match (fstA zs)[(pos - 1) / 2]? with | some v => pure v | none => unsupported "internal:_heapq.index") _ _ s
        rw [get_fst hy]
        refine wpAny_pure ?_
        show wpAny _ A.in1 (_ >>= _) _ _ s
        refine wpAny_bind ?_
        show wpAny _ A.in1 (match (fstA zs)[pos]? with | some v => pure v | none => unsupported "internal:_heapq.index") _ _ s
        rw [get_fst hx]
        refine wpAny_pure ?_
        have lf : (fstA zs).size = zs.length := by simp [fstA]
        refine wpAny_updateSeq ho rfl ?_ (by rw [lf]; exact hz) (by rw [Array.size_setIfInBounds, Array.size_setIfInBounds, lf]; omega)
        refine wpAny_pure ⟨plainId_quiet plain_hsift _, ?_⟩
        have hq := PySem.IsL.update ho (fun xs => (xs.setIfInBounds ((pos - 1) / 2) x.1).setIfInBounds pos y.1)
        rw [swap_fst hy hx] at hq
        have ih := sift_up (v0 := v0) cmp f (swapH zs ((pos - 1) / 2) pos) ((pos - 1) / 2) { s with heap := s.heap.update a (Obj.mapSeq fun xs => (xs.setIfInBounds ((pos - 1) / 2) x.1).setIfInBounds pos y.1) } (by omega) (by rw [swapH_length]; exact hpp) (by rw [swapH_length]; exact hz)
          (fun z hz' => hS z (swapH_mem hz')) ⟨_, hq⟩ (hb.trans .upd) (fun h' hl' hb' => ?_)
        · exact ih
        · have := hR h' (by rw [show upH lt (f + 1) zs pos = upH lt f (swapH zs ((pos - 1) / 2) pos) ((pos - 1) / 2) from by
            conv => lhs; unfold upH
            rw [if_pos h0', hx, hy]
            show (if lt x y = true then _ else _) = _
            rw [if_pos hlt]]; exact hl') hb'
          exact this
    · rw [if_neg (show ¬ pos > (0 : Int).toNat from h0')]
      show wpAny _ A.in1 (ret v0) _ _ s
      refine wpAny_pure ?_
      have := hR s.heap ⟨n, by rw [show upH lt (f + 1) zs pos = zs from by unfold upH; rw [if_neg h0']]; exact ho⟩ hb
      exact this
theorem childH_cases (lt : Value × β → Value × β → Bool) {zs : List (Value × β)} {pos : Nat} (h : pos < zs.length / 2) : childH lt zs pos < zs.length ∧ pos < childH lt zs pos := by
  unfold childH
  split
  · rename_i l r hl hr
    have := (List.getElem?_eq_some_iff.mp hr).1
    split <;> omega
  · omega
theorem sift_down {lt : Value × β → Value × β → Bool} {S : Value × β → Prop} {a : Addr} {h0 : Heap} {v0 : Value} (cmp : CmpB prog w A.in1 a h0 lt S) :
    ∀ (f : Nat) (zs : List (Value × β)) (pos : Nat) (s : Shared), zs.length < f + pos → pos < zs.length → zs.length ≤ sizeLine → (∀ z ∈ zs, S z) → LstAt s.heap a zs → StayB a h0 s.heap →
      (∀ h', LstAt h' a (upH lt zs.length (downH lt f zs pos).1 (downH lt f zs pos).2) → StayB a h0 h' → R (.ok (.ret v0)) { s with heap := h' }) →
      codeAny (model prog w) A (.builtin "_heapq.heapify.sift" (sArgs a true pos v0)) R s
  | 0, zs, pos, _, hf, hp, _, _, _, _, _ => by omega
  | f + 1, zs, pos, s, hf, hp, hz, hS, hl, hb, hR => by
    obtain ⟨n, ho⟩ := hl
    have lf : (fstA zs).size = zs.length := by simp [fstA]
    refine codeAny_builtin entry_hsift ?_
    rw [Around.under_plainId plain_hsift _]
    show wpAny _ A.in1 (_ >>= _) _ _ s
    refine wpAny_bind ?_
    show wpAny _ A.in1 (seqItems? (.ref a) >>= _) _ _ s
    refine wpAny_bind (wpAny_seqItems ho rfl (wpAny_pure ?_))
    have tp : ((pos : Nat) : Int).toNat = pos := Int.toNat_natCast pos
    show wpAny _ A.in1 (if ((pos : Nat) : Int).toNat < (fstA zs).size / 2 then _ else _) _ _ s
    rw [tp, lf]
    by_cases hh : pos < zs.length / 2
    · rw [if_pos hh]
      obtain ⟨c1, c2⟩ := childH_cases lt hh
      obtain ⟨y, hy⟩ : ∃ y, zs[pos]? = some y := ⟨_, List.getElem?_eq_getElem hp⟩
      have ed : downH lt (f + 1) zs pos = downH lt f (swapH zs (childH lt zs pos) pos) (childH lt zs pos) := by
        conv => lhs; unfold downH
        rw [if_pos hh]
      have hl1 : 2 * pos + 1 < zs.length := by omega
      obtain ⟨l, hl⟩ : ∃ l, zs[2 * pos + 1]? = some l := ⟨_, List.getElem?_eq_getElem hl1⟩
      have sl := hS l (List.mem_of_getElem? hl)
      show wpAny _ A.in1 (if 2 * pos + 1 + 1 < zs.length then _ else _) _ _ s
      by_cases h2 : 2 * pos + 1 + 1 < zs.length
      · rw [if_pos h2]
        obtain ⟨r, hr⟩ : ∃ r, zs[2 * pos + 1 + 1]? = some r := ⟨_, List.getElem?_eq_getElem h2⟩
        have sr := hS r (List.mem_of_getElem? hr)
        show wpAny _ A.in1 (_ >>= _) _ _ s
        refine wpAny_bind ?_
        show wpAny _ A.in1 (match (fstA zs)[2 * pos + 1]? with | some v => pure v | none => unsupported "internal:_heapq.index") _ _ s
        rw [get_fst hl]
        refine wpAny_pure ?_
        show wpAny _ A.in1 (_ >>= _) _ _ s
        refine wpAny_bind ?_
        show wpAny _ A.in1 (match (fstA zs)[2 * pos + 1 + 1]? with | some v => pure v | none => unsupported "internal:_heapq.index") _ _ s
        rw [get_fst hr]
        refine wpAny_pure ?_
        show wpAny _ A.in1 (_ >>= _) _ _ s
        refine wpAny_bind ?_
        show wpAny _ A.in1 (_ >>= _) _ _ s
        refine wpAny_bind (wpAny_holding (wpAny_bind (cmp l r sl sr _ _ _ hb ?_)))
        refine wpAny_truthy_bool ?_
        refine wpAny_bind ?_
        show wpAny _ A.in1 (seqItems? (.ref a) >>= _) _ _ s
        refine wpAny_bind (wpAny_seqItems ho rfl (wpAny_pure ?_))
        show wpAny _ A.in1 (if ((fstA zs).size != zs.length) = true then _ else pure (lt l r)) _ _ s
        rw [if_neg (by rw [lf]; simp)]
        refine wpAny_pure ?_
        show wpAny _ A.in1 (if (!lt l r) = true then _ else _) _ _ s
        cases hlt : lt l r with
        | false =>
          rw [if_pos (by decide)]
          have ec : childH lt zs pos = 2 * pos + 1 + 1 := by unfold childH; rw [hl, hr]; show (if lt l r = true then _ else _) = _; rw [hlt]; rfl
          show wpAny _ A.in1 (_ >>= _) _ _ s
          refine wpAny_bind ?_
          show wpAny _ A.in1 (_ >>= _) _ _ s
          refine wpAny_bind ?_
          show wpAny _ A.in1 (seqItems? (.ref a) >>= _) _ _ s
          refine wpAny_bind (wpAny_seqItems ho rfl (wpAny_pure ?_))
          show wpAny _ A.in1 (_ >>= _) _ _ s
          refine wpAny_bind ?_
          show wpAny _ A.in1 (match (fstA zs)[2 * pos + 1 + 1]? with | some v => pure v | none => unsupported "internal:_heapq.index") _ _ s
          rw [get_fst hr]
          refine wpAny_pure ?_
          show wpAny _ A.in1 (_ >>= _) _ _ s
          refine wpAny_bind ?_
          show wpAny _ A.in1 (match (fstA zs)[pos]? with | some v => pure v | none => unsupported "internal:_heapq.index") _ _ s
          rw [get_fst hy]
          refine wpAny_pure ?_
          refine wpAny_updateSeq ho rfl ?_ (by rw [lf]; exact hz) (by rw [Array.size_setIfInBounds, Array.size_setIfInBounds, lf]; omega)
          refine wpAny_pure ⟨plainId_quiet plain_hsift _, ?_⟩
          have hq := PySem.IsL.update ho (fun xs => (xs.setIfInBounds (2 * pos + 1 + 1) y.1).setIfInBounds pos r.1)
          rw [swap_fst hr hy] at hq
          have ih := sift_down (v0 := v0) cmp f (swapH zs (2 * pos + 1 + 1) pos) (2 * pos + 1 + 1) { s with heap := s.heap.update a (Obj.mapSeq fun xs => (xs.setIfInBounds (2 * pos + 1 + 1) y.1).setIfInBounds pos r.1) } (by rw [swapH_length]; omega) (by rw [swapH_length]; omega) (by rw [swapH_length]; exact hz)
            (fun z hz' => hS z (swapH_mem hz')) ⟨_, hq⟩ (hb.trans .upd) (fun h' hl' hb' => ?_)
          · exact ih
          · rw [swapH_length] at hl'
            have := hR h' (by rw [ed, ec]; exact hl') hb'
            exact this
        | true =>
          rw [if_neg (by decide)]
          have ec : childH lt zs pos = 2 * pos + 1 := by unfold childH; rw [hl, hr]; show (if lt l r = true then _ else _) = _; rw [hlt]; rfl
          show wpAny _ A.in1 (_ >>= _) _ _ s
          refine wpAny_bind ?_
          show wpAny _ A.in1 (_ >>= _) _ _ s
          refine wpAny_bind ?_
          show wpAny _ A.in1 (seqItems? (.ref a) >>= _) _ _ s
          refine wpAny_bind (wpAny_seqItems ho rfl (wpAny_pure ?_))
          show wpAny _ A.in1 (_ >>= _) _ _ s
          refine wpAny_bind ?_
          show wpAny _ A.in1 (match (fstA zs)[2 * pos + 1]? with | some v => pure v | none => unsupported "internal:_heapq.index") _ _ s
          rw [get_fst hl]
          refine wpAny_pure ?_
          show wpAny _ A.in1 (_ >>= _) _ _ s
          refine wpAny_bind ?_
          show wpAny _ A.in1 (match (fstA zs)[pos]? with | some v => pure v | none => unsupported "internal:_heapq.index") _ _ s
          rw [get_fst hy]
          refine wpAny_pure ?_
          refine wpAny_updateSeq ho rfl ?_ (by rw [lf]; exact hz) (by rw [Array.size_setIfInBounds, Array.size_setIfInBounds, lf]; omega)
          refine wpAny_pure ⟨plainId_quiet plain_hsift _, ?_⟩
          have hq := PySem.IsL.update ho (fun xs => (xs.setIfInBounds (2 * pos + 1) y.1).setIfInBounds pos l.1)
          rw [swap_fst hl hy] at hq
          have ih := sift_down (v0 := v0) cmp f (swapH zs (2 * pos + 1) pos) (2 * pos + 1) { s with heap := s.heap.update a (Obj.mapSeq fun xs => (xs.setIfInBounds (2 * pos + 1) y.1).setIfInBounds pos l.1) } (by rw [swapH_length]; omega) (by rw [swapH_length]; omega) (by rw [swapH_length]; exact hz)
            (fun z hz' => hS z (swapH_mem hz')) ⟨_, hq⟩ (hb.trans .upd) (fun h' hl' hb' => ?_)
          · exact ih
          · rw [swapH_length] at hl'
            have := hR h' (by rw [ed, ec]; exact hl') hb'
            exact this
      · rw [if_neg h2]
        have ec : childH lt zs pos = 2 * pos + 1 := by unfold childH; rw [hl, show zs[2 * pos + 2]? = none from List.getElem?_eq_none (by omega)]
        show wpAny _ A.in1 (_ >>= _) _ _ s
        refine wpAny_bind ?_
        show wpAny _ A.in1 (_ >>= _) _ _ s
        refine wpAny_bind ?_
        show wpAny _ A.in1 (seqItems? (.ref a) >>= _) _ _ s
        refine wpAny_bind (wpAny_seqItems ho rfl (wpAny_pure ?_))
        show wpAny _ A.in1 (_ >>= _) _ _ s
        refine wpAny_bind ?_
        show wpAny _ A.in1 (match (fstA zs)[2 * pos + 1]? with | some v => pure v | none => unsupported "internal:_heapq.index") _ _ s
        rw [get_fst hl]
        refine wpAny_pure ?_
        show wpAny _ A.in1 (_ >>= _) _ _ s
        refine wpAny_bind ?_
        show wpAny _ A.in1 (match (fstA zs)[pos]? with | some v => pure v | none => unsupported "internal:_heapq.index") _ _ s
        rw [get_fst hy]
        refine wpAny_pure ?_
        refine wpAny_updateSeq ho rfl ?_ (by rw [lf]; exact hz) (by rw [Array.size_setIfInBounds, Array.size_setIfInBounds, lf]; omega)
        refine wpAny_pure ⟨plainId_quiet plain_hsift _, ?_⟩
        have hq := PySem.IsL.update ho (fun xs => (xs.setIfInBounds (2 * pos + 1) y.1).setIfInBounds pos l.1)
        rw [swap_fst hl hy] at hq
        have ih := sift_down (v0 := v0) cmp f (swapH zs (2 * pos + 1) pos) (2 * pos + 1) { s with heap := s.heap.update a (Obj.mapSeq fun xs => (xs.setIfInBounds (2 * pos + 1) y.1).setIfInBounds pos l.1) } (by rw [swapH_length]; omega) (by rw [swapH_length]; omega) (by rw [swapH_length]; exact hz)
          (fun z hz' => hS z (swapH_mem hz')) ⟨_, hq⟩ (hb.trans .upd) (fun h' hl' hb' => ?_)
        · exact ih
        · rw [swapH_length] at hl'
          have := hR h' (by rw [ed, ec]; exact hl') hb'
          exact this
    · rw [if_neg hh]
      refine wpAny_pure ⟨plainId_quiet plain_hsift _, ?_⟩
      have e : downH lt (f + 1) zs pos = (zs, pos) := by unfold downH; rw [if_neg hh]
      rw [e] at hR
      have up := sift_up (v0 := v0) cmp zs.length zs pos s hp hp hz hS ⟨n, ho⟩ hb hR
      exact up
end
end Sg
set_option Elab.async false
set_option linter.all false
set_option maxRecDepth 100000
set_option maxHeartbeats 4000000
namespace Sg
open PySem PySem.Spec PyProof.Rows L2
/-! ## heappush, heappop of data -/
section
variable {α γ : Type} {lt : α → α → Bool} {lt' : γ → γ → Bool} {f : α → γ}
theorem swapH_map (zs : List α) (i j : Nat) : (swapH zs i j).map f = swapH (zs.map f) i j := by
  unfold swapH
  rw [List.getElem?_map, List.getElem?_map]
  cases zs[i]? with
  | none => rfl
  | some x =>
    cases zs[j]? with
    | none => rfl
    | some y => show ((zs.set i y).set j x).map f = _; rw [List.map_set, List.map_set]; rfl
theorem childH_map (h : ∀ x y, lt' (f x) (f y) = lt x y) (zs : List α) (p : Nat) : childH lt' (zs.map f) p = childH lt zs p := by
  unfold childH
  rw [List.getElem?_map, List.getElem?_map]
  cases zs[2 * p + 1]? with
  | none => rfl
  | some x =>
    cases zs[2 * p + 2]? with
    | none => rfl
    | some y => show (if lt' (f x) (f y) = true then _ else _) = _; rw [h]
theorem upH_map (h : ∀ x y, lt' (f x) (f y) = lt x y) : ∀ (n : Nat) (zs : List α) (p : Nat), (upH lt n zs p).map f = upH lt' n (zs.map f) p
  | 0, _, _ => rfl
  | n + 1, zs, p => by
    unfold upH
    by_cases h0 : 0 < p
    · rw [if_pos h0, if_pos h0, List.getElem?_map, List.getElem?_map]
      cases zs[p]? with
      | none => rfl
      | some x =>
        cases zs[(p - 1) / 2]? with
        | none => rfl
        | some y =>
          show List.map f (if lt x y = true then _ else _) = if lt' (f x) (f y) = true then _ else _
          rw [h]
          cases lt x y with
          | true => rw [if_pos rfl, if_pos rfl, ← swapH_map]; exact upH_map h n _ _
          | false => rfl
    · rw [if_neg h0, if_neg h0]
theorem downH_map (h : ∀ x y, lt' (f x) (f y) = lt x y) : ∀ (n : Nat) (zs : List α) (p : Nat), (downH lt n zs p).1.map f = (downH lt' n (zs.map f) p).1 ∧ (downH lt n zs p).2 = (downH lt' n (zs.map f) p).2
  | 0, _, _ => ⟨rfl, rfl⟩
  | n + 1, zs, p => by
    unfold downH
    rw [List.length_map, childH_map h]
    by_cases h0 : p < zs.length / 2
    · rw [if_pos h0, if_pos h0, ← swapH_map]
      exact downH_map h n _ _
    · rw [if_neg h0, if_neg h0]
      exact ⟨rfl, rfl⟩
theorem pushH_map (h : ∀ x y, lt' (f x) (f y) = lt x y) (zs : List α) (z : α) : (pushH lt zs z).map f = pushH lt' (zs.map f) (f z) := by
  unfold pushH
  rw [upH_map h, List.map_append, List.length_map]
  rfl
theorem restH_map (h : ∀ x y, lt' (f x) (f y) = lt x y) (zs : List α) : (restH lt zs).map f = restH lt' (zs.map f) := by
  unfold restH
  rw [List.getLast?_map]
  cases zs.getLast? with
  | none => rfl
  | some z =>
    show List.map f (if zs.length = 1 then [] else _) = if (zs.map f).length = 1 then [] else _
    rw [List.length_map]
    by_cases h1 : zs.length = 1
    · rw [if_pos h1, if_pos h1]; rfl
    · rw [if_neg h1, if_neg h1, upH_map h, (downH_map h _ _ _).1, (downH_map h _ _ _).2, List.map_set, List.map_dropLast]
theorem upH_mem : ∀ (n : Nat) (zs : List α) (p : Nat) {z : α}, z ∈ upH lt n zs p → z ∈ zs
  | 0, _, _, _, h => h
  | n + 1, zs, p, z, h => by
    unfold upH at h
    split at h
    · split at h
      · split at h
        · exact swapH_mem (upH_mem n _ _ h)
        · exact h
      · exact h
    · exact h
theorem downH_mem : ∀ (n : Nat) (zs : List α) (p : Nat) {z : α}, z ∈ (downH lt n zs p).1 → z ∈ zs
  | 0, _, _, _, h => h
  | n + 1, zs, p, z, h => by
    unfold downH at h
    split at h
    · exact swapH_mem (downH_mem n _ _ h)
    · exact h
theorem upH_len : ∀ (n : Nat) (zs : List α) (p : Nat), (upH lt n zs p).length = zs.length
  | 0, _, _ => rfl
  | n + 1, zs, p => by
    unfold upH
    split
    · split
      · split
        · rw [upH_len n, swapH_length]
        · rfl
      · rfl
    · rfl
theorem downH_len : ∀ (n : Nat) (zs : List α) (p : Nat), (downH lt n zs p).1.length = zs.length
  | 0, _, _ => rfl
  | n + 1, zs, p => by
    unfold downH
    split
    · rw [downH_len n, swapH_length]
    · rfl
theorem pushH_len (zs : List α) (z : α) : (pushH lt zs z).length = zs.length + 1 := by unfold pushH; rw [upH_len, List.length_append]; rfl
theorem pushH_mem {zs : List α} {z x : α} (h : x ∈ pushH lt zs z) : x ∈ zs ∨ x = z := by
  have := upH_mem _ _ _ h
  rcases List.mem_append.mp this with h | h
  · exact .inl h
  · exact .inr (List.mem_singleton.mp h)
theorem restH_len (zs : List α) : (restH lt zs).length = zs.length - 1 := by
  unfold restH
  cases e : zs.getLast? with
  | none => rw [List.getLast?_eq_none_iff.mp e]; rfl
  | some z =>
    show (if zs.length = 1 then [] else _ : List α).length = _
    by_cases h1 : zs.length = 1
    · rw [if_pos h1, h1]; rfl
    · rw [if_neg h1, upH_len, downH_len, List.length_set, List.length_dropLast]
theorem restH_mem {zs : List α} {x : α} (h : x ∈ restH lt zs) : x ∈ zs := by
  unfold restH at h
  cases e : zs.getLast? with
  | none => rw [e] at h; exact nomatch h
  | some z =>
    rw [e] at h
    have h : x ∈ (if zs.length = 1 then [] else upH lt (zs.length - 1) (downH lt zs.length (zs.dropLast.set 0 z) 0).1 (downH lt zs.length (zs.dropLast.set 0 z) 0).2) := h
    split at h
    · exact nomatch h
    · have := downH_mem _ _ _ (upH_mem _ _ _ h)
      rcases List.mem_or_eq_of_mem_set this with h | h
      · exact (List.dropLast_sublist zs).subset h
      · rw [h]; exact List.mem_of_getLast? e
end
/-! ### data of tuples and ints -/
mutual
def tB : PyData → Bool
  | .int _ => true
  | .tuple ds => tBs ds
  | _ => false
def tBs : List PyData → Bool
  | [] => true
  | d :: ds => tB d && tBs ds
end
mutual
theorem reads_tB {h : Heap} : ∀ (d : PyData) (v : Value) (as : List Addr), Reads h v d as → tB d = true → as = []
  | .int _, _, _, .int _ _, _ => rfl
  | .tuple xs, _, _, .tuple _ _ _ r, e => reads_tBs xs _ _ r (by unfold tB at e; exact e)
theorem reads_tBs {h : Heap} : ∀ (ds : List PyData) (vs : List Value) (as : List Addr), ReadsAll h vs ds as → tBs ds = true → as = []
  | [], _, _, .nil, _ => rfl
  | d :: ds, _, _, .cons r q, e => by
    unfold tBs at e
    obtain ⟨e1, e2⟩ := Bool.and_eq_true_iff.mp e
    rw [reads_tB d _ _ r e1, reads_tBs ds _ _ q e2]; rfl
end
theorem kind_hpush : builtinKind "_heapq.heappush" = none := by decide +kernel
theorem kind_hpop : builtinKind "_heapq.heappop" = none := by decide +kernel
theorem args_hpush (a b : Value) : argsOk "_heapq.heappush" ⟨[a, b], []⟩ := by unfold argsOk; kernel_rfl
theorem args_hpop (a : Value) : argsOk "_heapq.heappop" ⟨[a], []⟩ := by unfold argsOk; kernel_rfl
/-- data that heapq may compare -/
structure Alk (ds : List PyData) : Prop where
  al : ∀ x ∈ ds, ∀ y ∈ ds, PySem.W.alike x y = true
  tb : ∀ x ∈ ds, tB x = true
  dp : ∀ x ∈ ds, x.depth ≤ 10
theorem tB_ne {d : PyData} (h : tB d = true) : d ≠ .none := by
  rintro rfl
  unfold tB at h
  exact nomatch h
/-- the values, the model's and ours, with their data -/
abbrev Z3 := Value × V × PyData
def ltZ (x y : Z3) : Bool := PySem.W.dataLt x.2.2 y.2.2
def ltV (x y : V × PyData) : Bool := PySem.W.dataLt x.2 y.2
section
variable {X : Cx} {pins : List (Addr × Obj)} {σ : L2.St} {H : Hp} {s : Shared}
structure ZOk (h : Heap) (all : List Z3) (z : Z3) : Prop where
  mem : z ∈ all
  rel : RelV z.2.1 z.1
  rd : Reads h z.1 z.2.2 []
theorem cmp_ok {prog : Program} {w : World} {A : Around} {a : Addr} {h0 : Heap} {all : List Z3} (k : Alk (all.map fun z => z.2.2)) (hu : A.units + 10 < cLine) (ha : ∀ o, h0.get? a = some o → o.cls = .type "list") :
    CmpB prog w A a h0 ltZ (ZOk h0 all) := fun x y hx hy s Q E hs hq => by
  have mx : x.2.2 ∈ all.map fun z => z.2.2 := List.mem_map_of_mem hx.mem
  have my : y.2.2 ∈ all.map fun z => z.2.2 := List.mem_map_of_mem hy.mem
  have rx := PySem.W.Reads.keepBut (a := a) hs.1 ha _ _ _ (k.al _ mx _ mx) hx.rd (by simp)
  have ry := PySem.W.Reads.keepBut (a := a) hs.1 ha _ _ _ (k.al _ my _ my) hy.rd (by simp)
  have := k.dp _ mx
  have := Nat.min_le_left x.2.2.depth y.2.2.depth
  exact PySem.W.rcLt_alike _ _ A s _ _ _ _ rx ry (k.al _ mx _ my) (tB_ne (k.tb _ mx)) (by omega) _ _ _ _ hq
end
end Sg
set_option Elab.async false
set_option linter.all false
set_option maxRecDepth 100000
set_option maxHeartbeats 4000000
namespace Sg
open PySem PySem.Spec PyProof.Rows L2
section
variable {X : Cx} {pins : List (Addr × Obj)} {σ : L2.St} {H : Hp} {s : Shared}
theorem zip_rel : ∀ {zs : List (V × PyData)} {its : List Value}, Vals (zs.map Prod.fst) its → ∀ z ∈ its.zip zs, RelV z.2.1 z.1 ∧ z.2 ∈ zs
  | [], _, .nil, z, h => nomatch h
  | a :: zs, _, .cons r t, z, h => by
    rcases List.mem_cons.mp h with rfl | h
    · exact ⟨r, List.mem_cons_self⟩
    · obtain ⟨h1, h2⟩ := zip_rel t z h
      exact ⟨h1, List.mem_cons_of_mem _ h2⟩
theorem zip_ok (I : Inv X pins σ H s) {zs : List (V × PyData)} {its : List Value} {all : List Z3} (rv : Vals (zs.map Prod.fst) its) (hd : ∀ z ∈ zs, Dp X.K H z.1 z.2) (hb : ∀ z ∈ zs, tB z.2 = true) (sub : ∀ z ∈ its.zip zs, z ∈ all) :
    ∀ z ∈ its.zip zs, ZOk s.heap all z := fun z hz => by
  obtain ⟨r, m⟩ := zip_rel rv z hz
  obtain ⟨as, rd⟩ := Dp.reads I _ _ _ (hd _ m) r
  have := reads_tB _ _ _ rd (hb _ m)
  subst this
  exact ⟨sub z hz, r, rd⟩
theorem vals_of : ∀ {zs : List Z3}, (∀ z ∈ zs, RelV z.2.1 z.1) → Vals (zs.map fun z => z.2.1) (zs.map Prod.fst)
  | [], _ => .nil
  | z :: zs, h => .cons (h z List.mem_cons_self) (vals_of fun x hx => h x (List.mem_cons_of_mem _ hx))
/-- a list's items, told by the values that stand there now -/
theorem lst_write (I : Inv X pins σ H s) {l : Addr} {xs : List V} {zs : List Z3} {h' : Heap} (hH : H l = some (.lst xs)) (hl : LstAt h' l zs) (hb : StayB l s.heap h') (hz : zs.length ≤ sizeLine) (hv : ∀ z ∈ zs, RelV z.2.1 z.1) :
    Inv X pins σ (upd H l (.lst (zs.map fun z => z.2.1))) { s with heap := h' } := by
  obtain ⟨n, e⟩ := hl
  refine I.write (t' := s.toks) (x := l) (e := l) (by rw [hH]; exact trivial) (.inl rfl) hb.1 ⟨_, e⟩ ?_
  exact ⟨by rw [List.length_map]; exact hz, zs.map Prod.fst, n, vals_of hv, e⟩
def rPush (K : PySem.W.Frag) : List V → Hp → VK → Prop := fun vs H Q => ∃ (l : Addr) (v : V) (d : PyData) (zs : List (V × PyData)), vs = [.ref l, v] ∧ H l = some (.lst (zs.map Prod.fst)) ∧ (∀ z ∈ zs, Dp K H z.1 z.2) ∧ Dp K H v d ∧ Alk (d :: zs.map Prod.snd) ∧ zs.length < sizeLine ∧
  Q .non (upd H l (.lst ((pushH ltV zs (v, d)).map Prod.fst)))
theorem cr_hpush {j : Nat} (hr : Room j X.A) : CallR X (.builtin "_heapq.heappush") (rPush X.K) := by
  intro pins s σ H vs us Q I r h
  obtain ⟨l, v, d, zs, rfl, hH, hd, hv, hk, hz, q⟩ := h
  obtain ⟨u1, us', r1, r2, rfl⟩ : ∃ u1 us', RelV (.ref l) u1 ∧ Vals [v] us' ∧ us = u1 :: us' := by
    cases r with
    | cons a b => exact ⟨_, _, a, b, rfl⟩
  obtain ⟨u2, rfl, rv2⟩ := vals1 r2
  cases r1
  obtain ⟨_, its, n, rv, ln, e⟩ := I.lstM hH
  rw [List.length_map] at ln
  have hu := hr.units
  have f1 : (its.zip zs).map Prod.fst = its := List.map_fst_zip (by omega)
  have f2 : (its.zip zs).map Prod.snd = zs := List.map_snd_zip (by omega)
  let all : List Z3 := (u2, v, d) :: its.zip zs
  have ok0 : ∀ z ∈ its.zip zs, ZOk s.heap all z := zip_ok I rv hd (fun z hz => hk.tb _ (List.mem_cons_of_mem _ (List.mem_map_of_mem hz))) fun z hz => List.mem_cons_of_mem _ hz
  obtain ⟨as, rd⟩ := Dp.reads I _ _ _ hv rv2
  have ae := reads_tB _ _ _ rd (hk.tb _ List.mem_cons_self)
  subst ae
  have ok1 : ZOk s.heap all (u2, v, d) := ⟨List.mem_cons_self, rv2, rd⟩
  have kall : Alk (all.map fun z => z.2.2) := by
    have : (all.map fun z : Z3 => z.2.2) = d :: zs.map Prod.snd := by
      show d :: (its.zip zs).map (fun z : Z3 => z.2.2) = _
      rw [show (fun z : Z3 => z.2.2) = Prod.snd ∘ Prod.snd from rfl, ← List.map_map, f2]
    rw [this]; exact hk
  have ha : ∀ o, s.heap.get? l = some o → o.cls = .type "list" := fun o ho => by rw [e] at ho; cases ho; rfl
  refine call_function_tree kind_hpush plain_hpush entry_hpush (args_hpush _ _) ?_
  show wpAny _ X.A.in1 (_ >>= _) _ _ s
  refine wpAny_bind ?_
  show wpAny _ X.A.in1 (_ >>= _) _ _ s
  refine wpAny_bind ?_
  show wpAny _ X.A.in1 (pure ()) _ _ s
  refine wpAny_pure ?_
  show wpAny _ X.A.in1 (_ >>= _) _ _ s
  refine wpAny_bind ?_
  show wpAny _ X.A.in1 (pure ()) _ _ s
  refine wpAny_pure ?_
  show wpAny _ X.A.in1 (_ >>= _) _ _ s
  refine wpAny_bind ?_
  show wpAny _ X.A.in1 (isInstance (.ref l) (.type "list") >>= _) _ _ s
  refine wpAny_bind (wpAny_isInstance (T := "list") (b := true) ⟨_, e, rfl⟩ (by kernel_rfl) ?_)
  show wpAny _ X.A.in1 (pure l) _ _ s
  refine wpAny_pure ?_
  refine wpAny_pure ?_
  show wpAny _ X.A.in1 (_ >>= _) _ _ s
  refine wpAny_bind ?_
  refine wpAny_updateSeq e rfl ?_ (by rw [List.size_toArray]; omega) (by rw [Array.size_push, List.size_toArray]; omega)
  have e1 := PySem.IsL.update e (fun x => x.push u2)
  have hfst : its.toArray.push u2 = fstA (its.zip zs ++ [((u2, v, d) : Z3)]) := by
    unfold fstA
    rw [List.map_append, f1]
    simp
  rw [hfst] at e1
  show wpAny _ X.A.in1 (_ >>= _) _ _ _
  refine wpAny_bind ?_
  show wpAny _ X.A.in1 (seqItems? (.ref l) >>= _) _ _ _
  refine wpAny_bind (wpAny_seqItems e1 rfl (wpAny_pure ?_))
  refine wpAny_pure ⟨plainId_quiet plain_hsift _, ?_⟩
  have lz : (its.zip zs).length = zs.length := by rw [List.length_zip]; omega
  have ls : (fstA (its.zip zs ++ [((u2, v, d) : Z3)])).size - 1 = zs.length := by simp [fstA, lz]
  rw [ls]
  have cmp := cmp_ok (prog := X.prog) (w := X.w) (A := X.A.in1) (a := l) (h0 := s.heap) kall (by show X.A.units + 1 + 10 < cLine; omega) ha
  have okA : ∀ z ∈ its.zip zs ++ [((u2, v, d) : Z3)], ZOk s.heap all z := fun z hz => by
    rcases List.mem_append.mp hz with h | h
    · exact ok0 z h
    · rw [List.mem_singleton.mp h]; exact ok1
  have lz2 : (its.zip zs ++ [((u2, v, d) : Z3)]).length = zs.length + 1 := by rw [List.length_append, lz]; rfl
  have go := sift_up (R := fun r s' => match r with
      | .ok (.ret v) => EP X pins σ Q v s'
      | .ok _ => False
      | .error e => X.xe e s') (v0 := .none) cmp (zs.length + 1) (its.zip zs ++ [((u2, v, d) : Z3)]) zs.length { s with heap := s.heap.update l (Obj.mapSeq fun x => x.push u2) } (by omega) (by omega) (by omega) okA ⟨_, e1⟩ .upd (fun h' hl' hb' => ?_)
  · exact go
  · have mem : ∀ z ∈ upH ltZ (zs.length + 1) (its.zip zs ++ [((u2, v, d) : Z3)]) zs.length, RelV z.2.1 z.1 := fun z hz => (okA z (upH_mem _ _ _ hz)).rel
    have I' := lst_write I hH hl' hb' (by rw [upH_len]; omega) mem
    refine ⟨.non, _, I', rfl, ?_⟩
    have : ((upH ltZ (zs.length + 1) (its.zip zs ++ [((u2, v, d) : Z3)]) zs.length).map fun z => z.2.1) = (pushH ltV zs (v, d)).map Prod.fst := by
      rw [show (fun z : Z3 => z.2.1) = Prod.fst ∘ Prod.snd from rfl, ← List.map_map, upH_map (lt := ltZ) (lt' := ltV) (f := Prod.snd) (fun _ _ => rfl), List.map_append, f2]
      rfl
    rw [this]
    exact q
def rPop (K : PySem.W.Frag) : List V → Hp → VK → Prop := fun vs H Q => ∃ (l : Addr) (zs : List (V × PyData)) (z : V × PyData), vs = [.ref l] ∧ H l = some (.lst (zs.map Prod.fst)) ∧ zs[0]? = some z ∧ (∀ z ∈ zs, Dp K H z.1 z.2) ∧ Alk (zs.map Prod.snd) ∧
  Q z.1 (upd H l (.lst ((restH ltV zs).map Prod.fst)))
theorem cr_hpop {j : Nat} (hr : Room j X.A) : CallR X (.builtin "_heapq.heappop") (rPop X.K) := by
  intro pins s σ H vs us Q I r h
  obtain ⟨l, zs, z, rfl, hH, h0, hd, hk, q⟩ := h
  obtain ⟨u1, rfl, r1⟩ := vals1 r
  cases r1
  obtain ⟨hzs, its, n, rv, ln, e⟩ := I.lstM hH
  rw [List.length_map] at ln hzs
  have hu := hr.units
  have f1 : (its.zip zs).map Prod.fst = its := List.map_fst_zip (by omega)
  have f2 : (its.zip zs).map Prod.snd = zs := List.map_snd_zip (by omega)
  let ys : List Z3 := its.zip zs
  have ok0 : ∀ z ∈ ys, ZOk s.heap ys z := zip_ok I rv hd (fun z hz => hk.tb _ (List.mem_map_of_mem hz)) fun z hz => hz
  have kall : Alk (ys.map fun z => z.2.2) := by
    have : (ys.map fun z : Z3 => z.2.2) = zs.map Prod.snd := by
      show (its.zip zs).map (fun z : Z3 => z.2.2) = _
      rw [show (fun z : Z3 => z.2.2) = Prod.snd ∘ Prod.snd from rfl, ← List.map_map, f2]
    rw [this]; exact hk
  have ha : ∀ o, s.heap.get? l = some o → o.cls = .type "list" := fun o ho => by rw [e] at ho; cases ho; rfl
  have lz : ys.length = zs.length := by show (its.zip zs).length = _; rw [List.length_zip]; omega
  have pos : 0 < zs.length := (List.getElem?_eq_some_iff.mp h0).1
  have efst : its.toArray = fstA ys := by show _ = ((its.zip zs).map Prod.fst).toArray; rw [f1]
  rw [efst] at e
  obtain ⟨y0, hy0⟩ : ∃ y, ys[0]? = some y := ⟨_, List.getElem?_eq_getElem (by omega)⟩
  have ey0 : y0.2 = z := by
    have : (ys.map Prod.snd)[0]? = some z := by show ((its.zip zs).map Prod.snd)[0]? = _; rw [f2]; exact h0
    rw [List.getElem?_map, hy0] at this
    exact Option.some.inj this
  have lf : (fstA ys).size = zs.length := by simp [fstA, lz]
  have hlast : ys.getLast? = some (ys.getLast (fun e0 => by rw [e0] at lz; simp at lz; omega)) := List.getLast?_eq_some_getLast _
  generalize ys.getLast (fun e0 => by rw [e0] at lz; simp at lz; omega) = yl at hlast
  have eback : (fstA ys).back? = some yl.1 := by
    rw [List.back?_toArray, List.getLast?_map, hlast]; rfl
  have epop : (fstA ys).pop = fstA ys.dropLast := by
    unfold fstA
    rw [List.pop_toArray, List.map_dropLast]
  refine call_function_tree kind_hpop plain_hpop entry_hpop (args_hpop _) ?_
  show wpAny _ X.A.in1 (_ >>= _) _ _ s
  refine wpAny_bind ?_
  show wpAny _ X.A.in1 (_ >>= _) _ _ s
  refine wpAny_bind ?_
  show wpAny _ X.A.in1 (_ >>= _) _ _ s
  refine wpAny_bind ?_
  show wpAny _ X.A.in1 (pure ()) _ _ s
  refine wpAny_pure ?_
  show wpAny _ X.A.in1 (pure (Value.ref l)) _ _ s
  refine wpAny_pure ?_
  show wpAny _ X.A.in1 (_ >>= _) _ _ s
  refine wpAny_bind ?_
  show wpAny _ X.A.in1 (isInstance (.ref l) (.type "list") >>= _) _ _ s
  refine wpAny_bind (wpAny_isInstance (T := "list") (b := true) ⟨_, e, rfl⟩ (by kernel_rfl) ?_)
  show wpAny _ X.A.in1 (pure l) _ _ s
  refine wpAny_pure ?_
  refine wpAny_pure ?_
  show wpAny _ X.A.in1 (_ >>= _) _ _ s
  refine wpAny_bind ?_
  show wpAny _ X.A.in1 (seqItems? (.ref l) >>= _) _ _ _
  refine wpAny_bind (wpAny_seqItems e rfl (wpAny_pure ?_))
  rw [eback]
  show wpAny _ X.A.in1 (_ >>= _) _ _ s
  refine wpAny_bind ?_
  refine wpAny_updateSeq e rfl ?_ (by rw [lf]; exact hzs) (by rw [Array.size_pop, lf]; omega)
  have e1 := PySem.IsL.update e (fun x => x.pop)
  rw [epop] at e1
  show wpAny _ X.A.in1 (if ((fstA ys).size == 1) = true then _ else _) _ _ _
  by_cases h1 : zs.length = 1
  · rw [if_pos (by rw [lf, h1]; rfl)]
    have el : ys = [y0] := by
      match ys, lz.trans h1, hy0 with
      | [y], _, h => cases h; rfl
    have eyl : yl = y0 := by rw [el] at hlast; exact (Option.some.inj hlast).symm
    show wpAny _ X.A.in1 (ret yl.1) _ _ _
    refine wpAny_pure ?_
    have I' := lst_write (zs := []) (h' := s.heap.update l (Obj.mapSeq fun x => x.pop)) I hH ⟨_, by rw [el] at e1; exact e1⟩ .upd (Nat.zero_le _) (fun z hz => nomatch hz)
    refine ⟨y0.2.1, _, I', by rw [eyl]; exact (ok0 y0 (List.mem_of_getElem? hy0)).rel, ?_⟩
    rw [ey0]
    have : restH ltV zs = [] := List.eq_nil_of_length_eq_zero (by rw [restH_len]; omega)
    rw [this] at q
    exact q
  · rw [if_neg (by rw [lf]; simp [h1])]
    show wpAny _ X.A.in1 (_ >>= _) _ _ _
    refine wpAny_bind ?_
    show wpAny _ X.A.in1 (match (fstA ys)[0]? with | some v => pure v | none => unsupported "internal:_heapq.index") _ _ _
    rw [get_fst hy0]
    refine wpAny_pure ?_
    show wpAny _ X.A.in1 (_ >>= _) _ _ _
    refine wpAny_bind ?_
    have ld : ys.dropLast.length = zs.length - 1 := by rw [List.length_dropLast, lz]
    have ld2 : (fstA ys.dropLast).size = zs.length - 1 := by simp [fstA, lz]
    refine wpAny_updateSeq e1 rfl ?_ (by rw [ld2]; omega) (by rw [Array.size_setIfInBounds, ld2]; omega)
    have e2 := PySem.IsL.update e1 (fun x => x.setIfInBounds 0 yl.1)
    have eset : (fstA ys.dropLast).setIfInBounds 0 yl.1 = fstA (ys.dropLast.set 0 yl) := by
      unfold fstA
      rw [List.setIfInBounds_toArray, List.map_set]
    rw [eset] at e2
    refine wpAny_pure ⟨plainId_quiet plain_hsift _, ?_⟩
    have cmp := cmp_ok (prog := X.prog) (w := X.w) (A := X.A.in1) (a := l) (h0 := s.heap) kall (by show X.A.units + 1 + 10 < cLine; omega) ha
    have okA : ∀ z ∈ ys.dropLast.set 0 yl, ZOk s.heap ys z := fun z hz => by
      rcases List.mem_or_eq_of_mem_set hz with h | h
      · exact ok0 z ((List.dropLast_sublist ys).subset h)
      · rw [h]; exact ok0 yl (List.mem_of_getLast? hlast)
    have lset : (ys.dropLast.set 0 yl).length = zs.length - 1 := by rw [List.length_set, ld]
    have go := sift_down (R := fun r s' => match r with
        | .ok (.ret v) => EP X pins σ Q v s'
        | .ok _ => False
        | .error e => X.xe e s') (v0 := y0.1) cmp ys.length (ys.dropLast.set 0 yl) 0 { s with heap := (s.heap.update l (Obj.mapSeq fun x => x.pop)).update l (Obj.mapSeq fun x => x.setIfInBounds 0 yl.1) } (by omega) (by omega) (by omega) okA ⟨_, e2⟩ (StayB.trans .upd .upd) (fun h' hl' hb' => ?_)
    · exact go
    · rw [lset] at hl'
      have hl' : LstAt h' l (upH ltZ (zs.length - 1) (downH ltZ ys.length (ys.dropLast.set 0 yl) 0).1 (downH ltZ ys.length (ys.dropLast.set 0 yl) 0).2) := hl'
      have er : restH ltZ ys = upH ltZ (zs.length - 1) (downH ltZ ys.length (ys.dropLast.set 0 yl) 0).1 (downH ltZ ys.length (ys.dropLast.set 0 yl) 0).2 := by
        unfold restH
        rw [hlast]
        show (if ys.length = 1 then [] else upH ltZ (ys.length - 1) _ _) = _
        rw [if_neg (by rw [lz]; exact h1), lz]
      rw [← er] at hl'
      have mem : ∀ z ∈ restH ltZ ys, RelV z.2.1 z.1 := fun z hz => (ok0 z (restH_mem hz)).rel
      have I' := lst_write I hH hl' hb' (by rw [restH_len, lz]; omega) mem
      refine ⟨y0.2.1, _, I', (ok0 y0 (List.mem_of_getElem? hy0)).rel, ?_⟩
      have : ((restH ltZ ys).map fun z => z.2.1) = (restH ltV zs).map Prod.fst := by
        rw [show (fun z : Z3 => z.2.1) = Prod.fst ∘ Prod.snd from rfl, ← List.map_map, restH_map (lt := ltZ) (lt' := ltV) (f := Prod.snd) (fun _ _ => rfl)]
        show ((restH ltV ((its.zip zs).map Prod.snd)).map Prod.fst) = _
        rw [f2]
      rw [this, ey0]
      exact q
end
end Sg
set_option Elab.async false
set_option linter.all false
set_option maxRecDepth 100000
set_option maxHeartbeats 4000000
namespace Sg
open PySem PySem.Spec PyProof.Rows L2
/-! ## waits: places and items of the queue -/
abbrev Plc := Int × Int
abbrev plD (p : Plc) : PyData := tD [p.1, p.2]
abbrev plsD (ps : List Plc) : List PyData := ps.map plD
def plLt (p q : Plc) : Bool := decide (p.1 < q.1) || (decide (p.1 = q.1) && decide (p.2 < q.2))
def plLe (p q : Plc) : Bool := !plLt q p
def insP (p : Plc) : List Plc → List Plc
  | [] => [p]
  | q :: r => if plLe p q then p :: q :: r else q :: insP p r
def sortP : List Plc → List Plc
  | [] => []
  | p :: r => insP p (sortP r)
theorem insP_perm (p : Plc) : ∀ r : List Plc, List.Perm (insP p r) (p :: r)
  | [] => .refl _
  | q :: r => by
    unfold insP
    split
    · exact .refl _
    · exact ((insP_perm p r).cons q).trans (.swap _ _ _)
theorem sortP_perm : ∀ r : List Plc, List.Perm (sortP r) r
  | [] => .refl _
  | p :: r => (insP_perm p _).trans ((sortP_perm r).cons p)
theorem plLe_iff (p q : Plc) : plLe p q = true ↔ p.1 < q.1 ∨ (p.1 = q.1 ∧ p.2 ≤ q.2) := by
  unfold plLe plLt
  simp only [Bool.not_eq_true', Bool.or_eq_false_iff, Bool.and_eq_false_iff, decide_eq_false_iff_not]
  omega
theorem plLe_trans {p q r : Plc} (h : plLe p q = true) (g : plLe q r = true) : plLe p r = true := by
  rw [plLe_iff] at h g ⊢
  omega
theorem plLe_total (p q : Plc) : (plLe p q || plLe q p) = true := by
  rw [Bool.or_eq_true, plLe_iff, plLe_iff]
  omega
theorem plLe_anti {p q : Plc} (h : plLe p q = true) (g : plLe q p = true) : p = q := by
  rw [plLe_iff] at h g
  exact Prod.ext (by omega) (by omega)
theorem insP_sorted (p : Plc) : ∀ {r : List Plc}, r.Pairwise (fun a b => plLe a b = true) → (insP p r).Pairwise (fun a b => plLe a b = true)
  | [], _ => by unfold insP; exact List.pairwise_singleton _ _
  | q :: r, h => by
    unfold insP
    obtain ⟨h1, h2⟩ := List.pairwise_cons.mp h
    split
    · rename_i hp
      exact List.pairwise_cons.mpr ⟨fun x hx => by
        rcases List.mem_cons.mp hx with rfl | hx
        · exact hp
        · exact plLe_trans hp (h1 x hx), h⟩
    · rename_i hp
      have hq : plLe q p = true := by
        have := plLe_total p q
        rw [Bool.or_eq_true] at this
        rcases this with z | z
        · exact absurd z hp
        · exact z
      exact List.pairwise_cons.mpr ⟨fun x hx => by
        rcases List.mem_cons.mp ((insP_perm p r).mem_iff.mp hx) with rfl | hx
        · exact hq
        · exact h1 x hx, insP_sorted p h2⟩
theorem sortP_sorted : ∀ r : List Plc, (sortP r).Pairwise (fun a b => plLe a b = true)
  | [] => .nil
  | p :: r => insP_sorted p (sortP_sorted r)
theorem sortP_merge (ps : List Plc) : ps.mergeSort plLe = sortP ps := by
  refine List.Perm.eq_of_pairwise (le := fun a b => plLe a b = true) (fun a b _ _ h g => plLe_anti h g) ?_ (sortP_sorted ps) ((List.mergeSort_perm ps plLe).trans (sortP_perm ps).symm)
  exact List.pairwise_mergeSort (le := plLe) (fun a b c h g => plLe_trans h g) plLe_total ps
theorem dataLt_pl (p q : Plc) : PySem.W.dataLt (plD p) (plD q) = plLt p q := by
  show PySem.W.dataLt (.tuple [.int p.1, .int p.2]) (.tuple [.int q.1, .int q.2]) = _
  rw [PySem.W.dataLt_ii]
  unfold plLt
  by_cases h1 : p.1 < q.1 <;> by_cases h2 : p.1 = q.1 <;> by_cases h3 : p.2 < q.2 <;> simp [h1, h2, h3]
theorem sort_pls {ys : List V} {ps : List Plc} (h : ys.length = ps.length) : ((ys.zip (plsD ps)).mergeSort (PySem.W.dataLe false (·.2))).map (·.2) = plsD (sortP ps) := by
  rw [List.map_mergeSort (r := PySem.W.dataLe false (fun b : V × PyData => b.2)) (s := PySem.W.dataLe false (fun d : PyData => d)) (f := fun b : V × PyData => b.2) (fun a _ b _ => rfl), zip_snd (by rw [h, List.length_map]), ← sortP_merge]
  exact (List.map_mergeSort (r := plLe) (f := plD) (fun a _ b _ => by
    show plLe a b = !PySem.W.dataLt (plD b) (plD a)
    rw [dataLt_pl]; rfl)).symm
/-! ### lists of whole numbers, of places, the less -/
def lexI : List Int → List Int → Bool
  | _, [] => false
  | [], _ :: _ => true
  | x :: xs, y :: ys => if x = y then lexI xs ys else decide (x < y)
def lexP : List Plc → List Plc → Bool
  | _, [] => false
  | [], _ :: _ => true
  | x :: xs, y :: ys => if x = y then lexP xs ys else plLt x y
abbrev It := Int × List Int × List Plc
def itD (i : It) : PyData := .tuple [.int i.1, tD i.2.1, .tuple (plsD i.2.2)]
def itLt (x y : It) : Bool := if x.1 = y.1 then (if x.2.1 = y.2.1 then lexP x.2.2 y.2.2 else lexI x.2.1 y.2.1) else decide (x.1 < y.1)
open PySem.W in
theorem rowLt_nil : rowLt [] [] = false := lex_irrefl _
open PySem.W in
theorem rowLt_less (y : PyData) (ys : List PyData) : rowLt [] (y :: ys) = true := by
  unfold rowLt
  rw [toks_all_cons]
  simp only [keyToksAll]
  rw [lex_diff (O := itemOrd) (by simp)]
  rfl
open PySem.W in
theorem rowLt_more (x : PyData) (xs : List PyData) : rowLt (x :: xs) [] = false := by
  unfold rowLt
  rw [toks_all_cons]
  simp only [keyToksAll]
  rw [lex_diff (O := itemOrd) (by simp)]
  rfl
open PySem.W in
theorem rowLt_cons {x y : PyData} (h : alike x y = true) (xs ys : List PyData) : rowLt (x :: xs) (y :: ys) = if PyData.eqv x y = true then rowLt xs ys else dataLt x y := dataLt_cons h xs ys
theorem rowLt_ints : ∀ xs ys : List Int, PySem.W.rowLt (iD xs) (iD ys) = lexI xs ys
  | [], [] => rowLt_nil
  | [], y :: ys => rowLt_less _ _
  | x :: xs, [] => rowLt_more _ _
  | x :: xs, y :: ys => by
    show PySem.W.rowLt (.int x :: iD xs) (.int y :: iD ys) = if x = y then lexI xs ys else decide (x < y)
    rw [rowLt_cons (by simp [PySem.W.alike]), rowLt_ints xs ys, PySem.W.dataLt_int]
    simp only [PyData.eqv, beq_iff_eq]
theorem alike_pl (p q : Plc) : PySem.W.alike (plD p) (plD q) = true := by
  simp [PySem.W.alike, PySem.W.alikeAll]
theorem eqv_pl (p q : Plc) : PyData.eqv (plD p) (plD q) = decide (p = q) := by
  rw [eqv_tD]
  by_cases h : p = q
  · rw [h, decide_eq_true rfl, decide_eq_true rfl]
  · rw [decide_eq_false h, decide_eq_false]
    intro e
    obtain ⟨e1, e2⟩ := List.cons.inj e
    exact h (Prod.ext e1 (List.cons.inj e2).1)
theorem rowLt_pls : ∀ xs ys : List Plc, PySem.W.rowLt (plsD xs) (plsD ys) = lexP xs ys
  | [], [] => rowLt_nil
  | [], y :: ys => rowLt_less _ _
  | x :: xs, [] => rowLt_more _ _
  | x :: xs, y :: ys => by
    show PySem.W.rowLt (plD x :: plsD xs) (plD y :: plsD ys) = if x = y then lexP xs ys else plLt x y
    rw [rowLt_cons (alike_pl x y), rowLt_pls xs ys, dataLt_pl, eqv_pl]
    by_cases h : x = y
    · rw [if_pos h, if_pos (decide_eq_true h)]
    · rw [if_neg h, if_neg (by rw [decide_eq_false h]; exact Bool.false_ne_true)]
theorem eqv_pls : ∀ xs ys : List Plc, PyData.eqvAll (plsD xs) (plsD ys) = decide (xs = ys)
  | [], [] => by simp [PyData.eqvAll]
  | [], y :: ys => by simp [PyData.eqvAll]
  | x :: xs, [] => by simp [PyData.eqvAll]
  | x :: xs, y :: ys => by
    show PyData.eqvAll (plD x :: plsD xs) (plD y :: plsD ys) = _
    rw [PyData.eqvAll, eqv_pl, eqv_pls xs ys]
    by_cases h : x = y <;> by_cases g : xs = ys <;> simp [h, g]
theorem alike_pls : ∀ xs ys : List Plc, PySem.W.alikeAll (plsD xs) (plsD ys) = true
  | [], ys => by cases ys <;> simp [PySem.W.alikeAll]
  | x :: xs, [] => by simp [PySem.W.alikeAll]
  | x :: xs, y :: ys => by
    show PySem.W.alikeAll (plD x :: plsD xs) (plD y :: plsD ys) = true
    unfold PySem.W.alikeAll
    rw [alike_pl, alike_pls xs ys]
    simp
theorem alike_it (x y : It) : PySem.W.alike (itD x) (itD y) = true := by
  unfold itD
  have h1 := PySem.W.alike_ints x.2.1 y.2.1
  have h2 := alike_pls x.2.2 y.2.2
  simp only [PySem.W.alike, PySem.W.alikeAll, h1, h2]
  simp
theorem dataLt_it (x y : It) : PySem.W.dataLt (itD x) (itD y) = itLt x y := by
  unfold itD
  rw [PySem.W.dataLt_tuple]
  show PySem.W.rowLt [.int x.1, tD x.2.1, .tuple (plsD x.2.2)] [.int y.1, tD y.2.1, .tuple (plsD y.2.2)] = _
  rw [rowLt_cons (by simp [PySem.W.alike]), rowLt_cons (by have := PySem.W.alike_ints x.2.1 y.2.1; simp only [PySem.W.alike]; exact this), rowLt_cons (by simp only [PySem.W.alike]; exact alike_pls _ _), rowLt_nil, PySem.W.dataLt_int, eqv_tD, PySem.W.dataLt_tuple, PySem.W.dataLt_tuple]
  show (if PyData.eqv (.int x.1) (.int y.1) = true then (if decide (x.2.1 = y.2.1) = true then (if PyData.eqv (.tuple (plsD x.2.2)) (.tuple (plsD y.2.2)) = true then false else PySem.W.rowLt (plsD x.2.2) (plsD y.2.2)) else PySem.W.rowLt (iD x.2.1) (iD y.2.1)) else decide (x.1 < y.1)) = _
  rw [rowLt_pls, rowLt_ints, PyData.eqv, PyData.eqv, eqv_pls]
  unfold itLt
  have irr : ∀ ps : List Plc, lexP ps ps = false := by
    intro ps
    induction ps with
    | nil => rfl
    | cons p r ih => show (if p = p then lexP r r else _) = false; rw [if_pos rfl]; exact ih
  by_cases h1 : x.1 = y.1
  · by_cases h2 : x.2.1 = y.2.1
    · by_cases h3 : x.2.2 = y.2.2
      · simp [h1, h2, h3, irr]
      · simp [h1, h2, h3]
    · simp [h1, h2]
  · simp [h1]
theorem tB_ints : ∀ xs : List Int, tBs (iD xs) = true
  | [] => rfl
  | x :: xs => by show (tB (.int x) && tBs (iD xs)) = true; rw [tB_ints xs]; rfl
theorem tB_pls : ∀ ps : List Plc, tBs (plsD ps) = true
  | [] => rfl
  | p :: ps => by show (tB (plD p) && tBs (plsD ps)) = true; rw [tB_pls ps]; rfl
theorem tB_it (x : It) : tB (itD x) = true := by
  have h1 := tB_ints x.2.1
  have h2 := tB_pls x.2.2
  unfold itD
  simp only [tB, tBs, h1, h2, Bool.and_self]
theorem depth_pls : ∀ ps : List Plc, PyData.depthAll (plsD ps) ≤ 1
  | [] => by simp [PyData.depthAll]
  | p :: ps => by
    show PyData.depthAll (plD p :: plsD ps) ≤ 1
    have := depth_pls ps
    simp only [PyData.depthAll, PyData.depth]
    simp [PyData.depthAll, PyData.depth]
    omega
theorem depth_it (x : It) : (itD x).depth ≤ 10 := by
  have h1 := depth_pls x.2.2
  have h2 : PyData.depthAll (iD x.2.1) = 0 := PySem.W.depth_ints _
  unfold itD
  simp only [PyData.depth, PyData.depthAll]
  omega
theorem alk_its (xs : List It) : Alk (xs.map itD) := ⟨fun x hx y hy => by
  obtain ⟨a, _, rfl⟩ := List.mem_map.mp hx
  obtain ⟨b, _, rfl⟩ := List.mem_map.mp hy
  exact alike_it a b, fun x hx => by
  obtain ⟨a, _, rfl⟩ := List.mem_map.mp hx
  exact tB_it a, fun x hx => by
  obtain ⟨a, _, rfl⟩ := List.mem_map.mp hx
  exact depth_it a⟩
end Sg
set_option Elab.async false
set_option linter.all false
set_option maxRecDepth 100000
set_option maxHeartbeats 4000000
namespace Sg
open PySem PySem.Spec PyProof.Rows L2
/-! ## the search for the least waits, as the program does it -/
def needed (coming : List Int) (ps : List Plc) : List Plc := sortP (ps.filter fun p => decide (p.1 ∈ coming) && decide (p.1 ≠ -1))
def movedBy (d : Nat) (wait : Nat) (tk : List Plc) : List Plc := tk.map fun p => (p.1, (p.2 + (wait : Int) + 1) % (d : Int))
def nextOne (work : List Int) (d at_ : Nat) (tk : List Plc) (wait : Nat) : Option (Int × List Plc) :=
  if (work.getD at_ 0, 0) ∈ movedBy d wait tk then none else some ((wait : Int), needed (work.drop (at_ + 1)) (movedBy d wait tk ++ [(work.getD at_ 0, 0)]))
def nextTaken (work : List Int) (d at_ : Nat) (tk : List Plc) : List (Int × List Plc) := (List.range d).filterMap (nextOne work d at_ tk)
def longer (it : It) (w : Int × List Plc) : It := (it.1 + w.1, it.2.1 ++ [w.1], w.2)
def pushAll (q : List It) (it : It) (ns : List (Int × List Plc)) : List It := ns.foldl (fun q w => pushH itLt q (longer it w)) q
abbrev SKey := Nat × List Plc
def firstQ (work : List Int) : List It := [(0, [], [(work.getD 0 0, 0)])]
theorem pushAll_len (it : It) : ∀ (ns : List (Int × List Plc)) (q : List It), (pushAll q it ns).length = q.length + ns.length
  | [], q => rfl
  | w :: ns, q => by
    show (pushAll (pushH itLt q (longer it w)) it ns).length = _
    rw [pushAll_len it ns, pushH_len, List.length_cons]
    omega
theorem nextTaken_len (work : List Int) (d at_ : Nat) (tk : List Plc) : (nextTaken work d at_ tk).length ≤ d := by
  unfold nextTaken
  have := List.length_filterMap_le (nextOne work d at_ tk) (List.range d)
  rw [List.length_range] at this
  exact this
/-! ### what stands in the heap -/
def KeepT (H H' : Hp) : Prop := ∀ a us, H a = some (.tup us) → H' a = some (.tup us)
theorem KeepT.of {H H' : Hp} (e : Same H H') : KeepT H H' := fun a us h => e _ _ h
theorem KeepT.trans {H H1 H2 : Hp} (x : KeepT H H1) (y : KeepT H1 H2) : KeepT H H2 := fun a us h => y a us (x a us h)
theorem KeepT.upd {H : Hp} {a : Addr} {o o' : HO} (h : H a = some o) (n : ∀ us, o ≠ .tup us) : KeepT H (upd H a o') := fun b us z => by
  rw [upd_ne (ne_of z h (fun z => n us z.symm))]; exact z
inductive PlsAt (H : Hp) : List V → List Plc → Prop
  | nil : PlsAt H [] []
  | cons {c : Addr} {p : Plc} {vs : List V} {ps : List Plc} : H c = some (.tup [.int p.1, .int p.2]) → PlsAt H vs ps → PlsAt H (.ref c :: vs) (p :: ps)
theorem PlsAt.keep {H H' : Hp} (e : KeepT H H') : ∀ {vs : List V} {ps : List Plc}, PlsAt H vs ps → PlsAt H' vs ps
  | _, _, .nil => .nil
  | _, _, .cons h r => .cons (e _ _ h) (PlsAt.keep e r)
theorem PlsAt.len {H : Hp} : ∀ {vs : List V} {ps : List Plc}, PlsAt H vs ps → vs.length = ps.length
  | _, _, .nil => rfl
  | _, _, .cons _ r => congrArg (· + 1) (PlsAt.len r)
theorem PlsAt.snoc {H : Hp} {c : Addr} {p : Plc} (h : H c = some (.tup [.int p.1, .int p.2])) : ∀ {vs : List V} {ps : List Plc}, PlsAt H vs ps → PlsAt H (vs ++ [.ref c]) (ps ++ [p])
  | _, _, .nil => .cons h .nil
  | _, _, .cons a r => .cons a (PlsAt.snoc h r)
theorem PlsAt.at {H : Hp} : ∀ {vs : List V} {ps : List Plc} {i : Nat} {v : V}, PlsAt H vs ps → vs[i]? = some v → ∃ c p, v = .ref c ∧ ps[i]? = some p ∧ H c = some (.tup [.int p.1, .int p.2])
  | _, _, 0, _, .cons h _, e => by cases e; exact ⟨_, _, rfl, rfl, h⟩
  | _, _, i + 1, _, .cons _ r, e => PlsAt.at (i := i) r e
theorem PlsAt.dp {K : PySem.W.Frag} {H : Hp} : ∀ {vs : List V} {ps : List Plc}, PlsAt H vs ps → DpAll K H vs (plsD ps)
  | _, _, .nil => .nil
  | _, _, .cons h r => .cons (Tp.ofInts (ns := [_, _]) (.of h)).dp (PlsAt.dp r)
/-- values with their data: what a sorted list's values are -/
theorem pls_sorted {H : Hp} : ∀ {bs : List (V × PyData)} {ps : List Plc}, (∀ b ∈ bs, ∃ c p, b = (.ref c, plD p) ∧ H c = some (.tup [.int p.1, .int p.2])) → bs.map (·.2) = plsD ps → PlsAt H (bs.map (·.1)) ps
  | [], [], _, _ => .nil
  | [], _ :: _, _, h => nomatch h
  | _ :: _, [], _, h => nomatch h
  | b :: bs, p :: ps, h, e => by
    obtain ⟨c, p', rfl, hc⟩ := h b List.mem_cons_self
    have e : plD p' :: bs.map (·.2) = plD p :: plsD ps := e
    obtain ⟨e1, e2⟩ := List.cons.inj e
    have : p' = p := by
      have h := PyData.tuple.inj e1
      obtain ⟨h1, h2⟩ := List.cons.inj h
      obtain ⟨h3, _⟩ := List.cons.inj h2
      exact Prod.ext (PyData.int.inj h1) (PyData.int.inj h3)
    subst this
    exact .cons hc (pls_sorted (fun x hx => h x (List.mem_cons_of_mem _ hx)) e2)
theorem PlsAt.zip {H : Hp} : ∀ {vs : List V} {ps : List Plc}, PlsAt H vs ps → ∀ b ∈ vs.zip (plsD ps), ∃ c p, b = (.ref c, plD p) ∧ H c = some (.tup [.int p.1, .int p.2])
  | _, _, .nil, b, hb => nomatch hb
  | _, _, .cons h r, b, hb => by
    rcases List.mem_cons.mp hb with rfl | hb
    · exact ⟨_, _, rfl, h⟩
    · exact PlsAt.zip r b hb
def TkAt (H : Hp) (r : Addr) (ps : List Plc) : Prop := ∃ us, H r = some (.tup us) ∧ PlsAt H us ps
theorem TkAt.keep {H H' : Hp} (e : KeepT H H') {r : Addr} {ps : List Plc} (h : TkAt H r ps) : TkAt H' r ps := by
  obtain ⟨us, h1, h2⟩ := h
  exact ⟨us, e _ _ h1, h2.keep e⟩
theorem TkAt.dp {K : PySem.W.Frag} {H : Hp} {r : Addr} {ps : List Plc} (h : TkAt H r ps) : Dp K H (.ref r) (.tuple (plsD ps)) := by
  obtain ⟨us, h1, h2⟩ := h
  exact .tup (.of h1) h2.dp
/-- an item of the queue -/
def ItAt (H : Hp) (v : V) (it : It) : Prop := ∃ r w t, v = .ref r ∧ H r = some (.tup [.int it.1, .ref w, .ref t]) ∧ H w = some (.tup (it.2.1.map V.int)) ∧ TkAt H t it.2.2
theorem ItAt.keep {H H' : Hp} (e : KeepT H H') {v : V} {it : It} (h : ItAt H v it) : ItAt H' v it := by
  obtain ⟨r, w, t, h1, h2, h3, h4⟩ := h
  exact ⟨r, w, t, h1, e _ _ h2, e _ _ h3, h4.keep e⟩
theorem ItAt.dp {K : PySem.W.Frag} {H : Hp} {v : V} {it : It} (h : ItAt H v it) : Dp K H v (itD it) := by
  obtain ⟨r, w, t, rfl, h2, h3, h4⟩ := h
  exact .tup (.of h2) (.cons (.int _) (.cons (Tp.ofInts (ns := it.2.1) (.of h3)).dp (.cons h4.dp .nil)))
/-- the queue, each value with its item -/
abbrev QAt (H : Hp) (l : Addr) (zs : List (V × It)) : Prop := H l = some (.lst (zs.map Prod.fst)) ∧ ∀ z ∈ zs, ItAt H z.1 z.2
def ltI (x y : V × It) : Bool := itLt x.2 y.2
theorem ltI_eq (x y : V × It) : ltV (x.1, itD x.2) (y.1, itD y.2) = ltI x y := dataLt_it x.2 y.2
/-! ### keys of what was seen -/
def plK (p : Plc) : NestedKey := .tup [.num p.1, .num p.2]
def sK (k : SKey) : NestedKey := .tup [.num (k.1 : Int), .tup (k.2.map plK)]
theorem PlsAt.keys {H : Hp} : ∀ {vs : List V} {ps : List Plc}, PlsAt H vs ps → KeyAll H (ps.map plK) vs
  | _, _, .nil => .no
  | _, _, .cons h r => .on (.tup h (.on (.int _) (.on (.int _) .no))) (PlsAt.keys r)
theorem sK_at {H : Hp} {b t : Addr} {n : Nat} {ps : List Plc} (h : H b = some (.tup [.int (n : Nat), .ref t])) (g : TkAt H t ps) : KeyAt H (sK (n, ps)) (.ref b) := by
  obtain ⟨us, h1, h2⟩ := g
  exact .tup h (.on (.int _) (.on (.tup h1 h2.keys) .no))
theorem depth_plK : ∀ ps : List Plc, NestedKey.depthAll (ps.map plK) ≤ 1
  | [] => by rw [List.map_nil, NestedKey.depthAll]; omega
  | p :: ps => by
    have := depth_plK ps
    rw [List.map_cons, NestedKey.depthAll]
    unfold plK
    simp only [NestedKey.depth, NestedKey.depthAll]
    exact Nat.max_le.mpr ⟨by simp, this⟩
theorem sK_deep (k : SKey) : (sK k).depth ≤ 8 := by
  have := depth_plK k.2
  unfold sK
  simp only [NestedKey.depth, NestedKey.depthAll]
  omega
theorem plK_inj : ∀ {x y : List Plc}, x.map plK = y.map plK → x = y
  | [], [], _ => rfl
  | [], _ :: _, h => nomatch h
  | _ :: _, [], h => nomatch h
  | a :: x, b :: y, h => by
    rw [List.map_cons, List.map_cons] at h
    obtain ⟨h1, h2⟩ := List.cons.inj h
    have h1 := NestedKey.tup.inj h1
    obtain ⟨h3, h4⟩ := List.cons.inj h1
    obtain ⟨h5, _⟩ := List.cons.inj h4
    rw [plK_inj h2, Prod.ext (NestedKey.num.inj h3) (NestedKey.num.inj h5)]
theorem sK_inj {x y : SKey} (h : sK x = sK y) : x = y := by
  have h := NestedKey.tup.inj h
  obtain ⟨h1, h2⟩ := List.cons.inj h
  obtain ⟨h3, _⟩ := List.cons.inj h2
  exact Prod.ext (by have := NestedKey.num.inj h1; omega) (plK_inj (NestedKey.tup.inj h3))
/-- the dict's rows are what was seen -/
structure SeenOk (H : Hp) (rs : List Row) (seen : List SKey) : Prop where
  keys : KeysIn H rs
  len : rs.length = seen.length
  has : ∀ k : SKey, (atN rs (sK k)).isSome = decide (k ∈ seen)
theorem SeenOk.keep {H H' : Hp} (e : KeepT H H') {rs : List Row} {seen : List SKey} (h : SeenOk H rs seen) : SeenOk H' rs seen := ⟨h.keys.keep e, h.len, h.has⟩
theorem SeenOk.add {H : Hp} {rs : List Row} {seen : List SKey} {k : SKey} {b : Addr} {v : V} (h : SeenOk H rs seen) (hk : KeyAt H (sK k) (.ref b)) (hn : k ∉ seen) : SeenOk H (storeN rs (sK k) b v) (k :: seen) := by
  have h0 : atN rs (sK k) = none := by
    have := h.has k
    rw [decide_eq_false hn] at this
    exact Option.isNone_iff_eq_none.mp (by simpa using this)
  rw [storeN_new h0]
  refine ⟨fun r hr => ?_, by rw [List.length_append, h.len]; rfl, fun k' => ?_⟩
  · rcases List.mem_append.mp hr with hr | hr
    · exact h.keys r hr
    · rw [List.mem_singleton.mp hr]; exact ⟨hk, sK_deep k⟩
  · have := h.has k'
    unfold atN at this ⊢
    rw [List.find?_append]
    by_cases e : k' = k
    · subst e
      rw [decide_eq_true List.mem_cons_self]
      cases hf : rs.find? (fun r => decide (r.1 = sK k')) with
      | some r => simp
      | none => simp [List.find?_cons]
    · have e2 : sK k ≠ sK k' := fun z => e (sK_inj z).symm
      rw [show decide (k' ∈ k :: seen) = decide (k' ∈ seen) from by simp [e], ← this]
      cases hf : rs.find? (fun r => decide (r.1 = sK k')) with
      | some r => simp
      | none => simp [List.find?_cons, e2]
end Sg
set_option Elab.async false
set_option linter.all false
set_option maxRecDepth 100000
set_option maxHeartbeats 4000000
namespace Sg
open PySem PySem.Spec PyProof.Rows L2 StX
/-! ## displays of constants and names, as data; each tuple's object is told -/
mutual
inductive Fd (H : Hp) : V → PyData → Prop
  | non : Fd H .non .none
  | bl (b : Bool) : Fd H (.bl b) (.bool b)
  | int (i : Int) : Fd H (.int i) (.int i)
  | lst {a : Addr} {xs : List V} {ds : List PyData} : H a = some (.lst xs) → FdAll H xs ds → Fd H (.ref a) (.list ds)
  | tup {a : Addr} {xs : List V} {ds : List PyData} : FrzT H a xs → FdAll H xs ds → Fd H (.ref a) (.tuple ds)
inductive FdAll (H : Hp) : List V → List PyData → Prop
  | nil : FdAll H [] []
  | cons {v : V} {vs : List V} {d : PyData} {ds : List PyData} : Fd H v d → FdAll H vs ds → FdAll H (v :: vs) (d :: ds)
end
mutual
theorem Fd.same {H H' : Hp} (e : Same H H') : ∀ {v : V} {d : PyData}, Fd H v d → Fd H' v d
  | _, _, .non => .non
  | _, _, .bl b => .bl b
  | _, _, .int i => .int i
  | _, _, .lst h r => .lst (e _ _ h) (FdAll.same e r)
  | _, _, .tup h r => .tup (h.same e) (FdAll.same e r)
theorem FdAll.same {H H' : Hp} (e : Same H H') : ∀ {vs : List V} {ds : List PyData}, FdAll H vs ds → FdAll H' vs ds
  | _, _, .nil => .nil
  | _, _, .cons a r => .cons (Fd.same e a) (FdAll.same e r)
end
mutual
theorem Fd.dp {K : PySem.W.Frag} {H : Hp} : ∀ {v : V} {d : PyData}, Fd H v d → Dp K H v d
  | _, _, .non => .non
  | _, _, .bl b => .bl b
  | _, _, .int i => .int i
  | _, _, .lst h r => .lst (.of h) (FdAll.dp r)
  | _, _, .tup h r => .tup h.sq (FdAll.dp r)
theorem FdAll.dp {K : PySem.W.Frag} {H : Hp} : ∀ {vs : List V} {ds : List PyData}, FdAll H vs ds → DpAll K H vs ds
  | _, _, .nil => .nil
  | _, _, .cons a r => .cons (Fd.dp a) (FdAll.dp r)
end
theorem FdAll.len {H : Hp} : ∀ {vs : List V} {ds : List PyData}, FdAll H vs ds → vs.length = ds.length
  | _, _, .nil => rfl
  | _, _, .cons _ r => congrArg (· + 1) (FdAll.len r)
theorem FdAll.at {H : Hp} : ∀ {vs : List V} {ds : List PyData} {i : Nat} {v : V}, FdAll H vs ds → vs[i]? = some v → ∃ d, ds[i]? = some d ∧ Fd H v d
  | _, _, 0, _, .cons h _, e => by cases e; exact ⟨_, rfl, h⟩
  | _, _, i + 1, _, .cons _ r, e => FdAll.at (i := i) r e
theorem FdAll.ints {H : Hp} : ∀ {vs : List V} {ns : List Int}, FdAll H vs (iD ns) → vs = ns.map V.int
  | [], [], _ => rfl
  | [], _ :: _, h => nomatch h
  | _ :: _, [], h => nomatch h
  | v :: vs, n :: ns, h => by
    have h : FdAll H (v :: vs) (.int n :: iD ns) := h
    cases h with
    | cons a r =>
      cases a
      rw [FdAll.ints r]; rfl
theorem Fd.ints {H : Hp} {v : V} {ns : List Int} (h : Fd H v (tD ns)) : ∃ a, v = .ref a ∧ FrzT H a (ns.map V.int) := by
  have h : Fd H v (.tuple (iD ns)) := h
  cases h with
  | tup g r => rw [FdAll.ints r] at g; exact ⟨_, rfl, g⟩
/-! ### a tuple, its object told -/
/-! ### (x,) * n -/
/-! ### the reading -/
/-! ## a range object in a name -/
section
variable {X : Cx}
theorem cr_range2 : CallR X (.type "range") (fun vs H Q => ∃ i j : Int, vs = [V.int i, .int j] ∧ ∀ p, H p = none → Q (.ref p) (upd H p (.rng i j))) := by
  intro pins s σ H vs us Q I r h
  obtain ⟨i, j, rfl, q⟩ := h
  obtain ⟨u1, us2, r1, r2, rfl⟩ : ∃ u1 us2, RelV (.int i) u1 ∧ Vals [.int j] us2 ∧ us = u1 :: us2 := by
    cases r with
    | cons a b => exact ⟨_, _, a, b, rfl⟩
  obtain ⟨u2, rfl, rj⟩ := vals1 r2
  obtain ⟨t1, rfl⟩ := r1
  obtain ⟨t2, rfl⟩ := rj
  refine call_range_2 ⟨.ref s.heap.objs.size, upd H s.heap.objs.size (.rng i j), I.laid (t' := s.toks + 1) (fun b o e => Heap.get?_push_of_some _ e) (Nat.le_refl _) ?_, rfl, q _ (I.hok.fresh (Nat.le_refl _))⟩
  exact ⟨t1, t2, s.toks, Heap.get?_push_size _ rfl⟩
def iRngO (te : TE) : TI := fun σ H R => te σ H fun x H1 => ∃ a lo hi, x = .ref a ∧ H1 a = some (.rng lo hi) ∧ -(2 ^ 62) ≤ lo ∧ lo < 2 ^ 62 ∧ -(2 ^ 62) ≤ hi ∧ hi < 2 ^ 62 ∧ R (Itr lo (hi - lo).toNat) H1
theorem pi_rngO {tg l : Expr} {tl : TE} (hl : PE X l tl) : PI X tg l (iRngO tl) := by
  refine ⟨fun pins s σ H R I h => ?_⟩
  refine thn (hl.run pins s σ H _ I h) fun v s1 ⟨x, H1, I1, r1, q1⟩ => ?_
  obtain ⟨a, lo, hi, e, hq, h1, h2, h3, h4, q⟩ := q1
  subst e
  cases r1
  obtain ⟨t1, t2, t3, ho⟩ := I1.hok a _ hq
  refine wpAny_pyIter_range (show IsRange s1.heap a lo hi 1 t1 t2 t3 from ho) (small_one h1 h2 h3 h4) ?_
  refine ⟨s1.heap.objs.size, [s1.heap.objs.size], _, _, H1, rfl, I1.kept (t' := s1.toks) fun b o e => Heap.get?_push_of_some _ e, turn_range _ lo (hi - lo).toNat, ?_, fun b hb => ?_, q⟩
  · have e1 : lo + ((0 : Nat) : Int) * 1 = lo := by simp
    have e2 : (((hi - lo).toNat : Nat) : Int) - ((0 : Nat) : Int) = Builtin.Range.rangeSize lo hi 1 := by rw [rangeSize_one]; split <;> omega
    show IsRangeIter _ _ (lo + ((0 : Nat) : Int) * 1) ((((hi - lo).toNat : Nat) : Int) - ((0 : Nat) : Int)) 1
    rw [e1, e2]
    exact Heap.get?_push_size _ rfl
  · have e : b = s1.heap.objs.size := by simpa using hb
    subst e
    exact I1.fpOk (Nat.le_refl _) (I1.hok.fresh (Nat.le_refl _))
theorem cr_sumTK {K : PySem.W.Frag} (hK : X.K = K) (hc : X.calm = true) : CallR X (.builtin "sum") (fun vs H Q => ∃ (a : Addr) (ns : List Int), vs = [.ref a] ∧ SqT K H a (ns.map V.int) ∧ Q (.int ns.sum) H) := by
  subst hK; exact cr_sumT hc
end
end Sg
set_option Elab.async false
set_option linter.all false
set_option maxRecDepth 100000
set_option maxHeartbeats 4000000
namespace Sg
/-! ## what heaps keep: the least one stands in front -/
structure StrictO {α : Type} (lt : α → α → Bool) : Prop where
  asym : ∀ x y, lt x y = true → lt y x = false
  neg : ∀ x y z, lt x y = false → lt y z = false → lt x z = false
section
variable {α : Type} {lt : α → α → Bool}
theorem swap_at {zs : List α} {i j : Nat} {x y : α} (hi : zs[i]? = some x) (hj : zs[j]? = some y) (k : Nat) : (swapH zs i j)[k]? = if k = j then some x else if k = i then some y else zs[k]? := by
  have li := (List.getElem?_eq_some_iff.mp hi).1
  have lj := (List.getElem?_eq_some_iff.mp hj).1
  unfold swapH
  rw [hi, hj]
  show ((zs.set i y).set j x)[k]? = _
  rw [List.getElem?_set, List.getElem?_set, List.length_set]
  by_cases h1 : j = k
  · subst h1; simp [lj]
  · by_cases h2 : i = k
    · subst h2; simp [h1, li, Ne.symm h1]
    · simp [h1, h2, Ne.symm h1, Ne.symm h2]
theorem swap_perm {zs : List α} {i j : Nat} : List.Perm (swapH zs i j) zs := by
  unfold swapH
  cases hi : zs[i]? with
  | none => exact .refl _
  | some x =>
    cases hj : zs[j]? with
    | none => exact .refl _
    | some y =>
      obtain ⟨li, ei⟩ := List.getElem?_eq_some_iff.mp hi
      obtain ⟨lj, ej⟩ := List.getElem?_eq_some_iff.mp hj
      subst ei ej
      exact List.set_set_perm li lj
theorem up_perm : ∀ (n : Nat) (zs : List α) (p : Nat), List.Perm (upH lt n zs p) zs
  | 0, zs, _ => .refl _
  | n + 1, zs, p => by
    unfold upH
    split
    · split
      · split
        · exact (up_perm n _ _).trans swap_perm
        · exact .refl _
      · exact .refl _
    · exact .refl _
theorem down_perm : ∀ (n : Nat) (zs : List α) (p : Nat), List.Perm (downH lt n zs p).1 zs
  | 0, zs, _ => .refl _
  | n + 1, zs, p => by
    unfold downH
    split
    · exact (down_perm n _ _).trans swap_perm
    · exact .refl _
theorem push_perm (zs : List α) (z : α) : List.Perm (pushH lt zs z) (zs ++ [z]) := up_perm _ _ _
theorem rest_perm {zs : List α} {z : α} (h : zs[0]? = some z) : List.Perm (z :: restH lt zs) zs := by
  unfold restH
  rcases zs with _ | ⟨a, r⟩
  · exact nomatch h
  cases h
  rcases List.eq_nil_or_concat r with rfl | ⟨m, b, rfl⟩
  · exact .refl _
  · have e1 : (z :: (m ++ [b])).getLast? = some b := by rw [← List.cons_append, List.getLast?_concat]
    have e2 : (z :: (m ++ [b])).dropLast = z :: m := by rw [← List.cons_append, List.dropLast_concat]
    rw [List.concat_eq_append, e1]
    show List.Perm (z :: (if (z :: (m ++ [b])).length = 1 then [] else _)) _
    rw [if_neg (by simp), e2]
    refine List.Perm.cons _ ((up_perm _ _ _).trans ((down_perm _ _ _).trans ?_))
    show List.Perm (b :: m) (m ++ [b])
    exact (List.perm_append_comm (l₁ := [b]) (l₂ := m))
variable (lt)
def EdgeOk (zs : List α) (i : Nat) : Prop := ∀ x y, zs[i]? = some x → zs[(i - 1) / 2]? = some y → lt x y = false
def HeapP (zs : List α) : Prop := ∀ i, 0 < i → EdgeOk lt zs i
def GrandOk (zs : List α) (p : Nat) : Prop := 0 < p → ∀ c, 0 < c → (c - 1) / 2 = p → ∀ x y, zs[c]? = some x → zs[(p - 1) / 2]? = some y → lt x y = false
def UpI (zs : List α) (p : Nat) : Prop := (∀ i, 0 < i → i ≠ p → EdgeOk lt zs i) ∧ GrandOk lt zs p
def DnI (zs : List α) (p : Nat) : Prop := (∀ i, 0 < i → i ≠ p → (i - 1) / 2 ≠ p → EdgeOk lt zs i) ∧ GrandOk lt zs p
variable {lt}
theorem heap_front (O : StrictO lt) {zs : List α} (h : HeapP lt zs) {z : α} (h0 : zs[0]? = some z) : ∀ (i : Nat) (x : α), zs[i]? = some x → lt x z = false := by
  intro i
  induction i using Nat.strongRecOn with
  | _ i ih =>
    intro x hx
    rcases Nat.eq_zero_or_pos i with rfl | pos
    · rw [h0] at hx
      cases hx
      cases e : lt z z with
      | false => rfl
      | true => rw [O.asym _ _ e] at e; exact nomatch e
    · have hl := (List.getElem?_eq_some_iff.mp hx).1
      have hp : (i - 1) / 2 < i := by omega
      obtain ⟨y, hy⟩ : ∃ y, zs[(i - 1) / 2]? = some y := ⟨_, List.getElem?_eq_getElem (by omega)⟩
      exact O.neg _ _ _ (h i pos x y hx hy) (ih _ hp y hy)
theorem up_heap (O : StrictO lt) : ∀ (n : Nat) (zs : List α) (p : Nat), p < n → p < zs.length → UpI lt zs p → HeapP lt (upH lt n zs p)
  | 0, _, _, h, _, _ => absurd h (Nat.not_lt_zero _)
  | n + 1, zs, p, hn, hp, h => by
    unfold upH
    by_cases h0 : 0 < p
    · rw [if_pos h0]
      have hq : (p - 1) / 2 < p := by omega
      obtain ⟨x, hx⟩ : ∃ x, zs[p]? = some x := ⟨_, List.getElem?_eq_getElem hp⟩
      obtain ⟨y, hy⟩ : ∃ y, zs[(p - 1) / 2]? = some y := ⟨_, List.getElem?_eq_getElem (by omega)⟩
      rw [hx, hy]
      show HeapP lt (if lt x y = true then _ else _)
      obtain ⟨h1, h2⟩ := h
      cases e : lt x y with
      | false =>
        rw [if_neg Bool.false_ne_true]
        intro i hi
        by_cases hip : i = p
        · subst hip
          intro u v hu hv
          rw [hx] at hu; rw [hy] at hv
          cases hu; cases hv; exact e
        · exact h1 i hi hip
      | true =>
        rw [if_pos rfl]
        have yx := O.asym _ _ e
        refine up_heap O n _ _ (by omega) (by rw [swapH_length]; omega) ⟨fun i hi niq u v hu hv => ?_, fun hq0 c hc hcq u v hu hv => ?_⟩
        · rw [swap_at hy hx] at hu hv
          by_cases hip : i = p
          · subst hip
            rw [if_pos rfl] at hu
            rw [if_neg (by omega), if_pos rfl] at hv
            cases hu; cases hv; exact yx
          · rw [if_neg hip, if_neg niq] at hu
            by_cases hpp : (i - 1) / 2 = p
            · rw [if_pos hpp] at hv
              cases hv
              exact h2 h0 i hi hpp u _ hu hy
            · rw [if_neg hpp] at hv
              by_cases hpq : (i - 1) / 2 = (p - 1) / 2
              · rw [if_pos hpq] at hv
                cases hv
                exact O.neg _ _ _ (h1 i hi hip u y hu (by rw [hpq]; exact hy)) yx
              · rw [if_neg hpq] at hv
                exact h1 i hi hip u v hu hv
        · rw [swap_at hy hx] at hu hv
          rw [if_neg (by omega), if_neg (by omega)] at hv
          have yv := h1 _ hq0 (by omega) y v hy hv
          by_cases hcp : c = p
          · rw [if_pos hcp] at hu
            cases hu; exact yv
          · rw [if_neg hcp, if_neg (by omega)] at hu
            exact O.neg _ _ _ (h1 c hc hcp u y hu (by rw [hcq]; exact hy)) yv
    · rw [if_neg h0]
      have : p = 0 := by omega
      subst this
      exact fun i hi => h.1 i hi (by omega)
theorem child_ok (O : StrictO lt) {zs : List α} {p : Nat} (hp : p < zs.length / 2) : ∃ y, zs[childH lt zs p]? = some y ∧ (childH lt zs p = 2 * p + 1 ∨ childH lt zs p = 2 * p + 2) ∧ ∀ s u, 0 < s → (s - 1) / 2 = p → s ≠ childH lt zs p → zs[s]? = some u → lt u y = false := by
  obtain ⟨l, hl⟩ : ∃ l, zs[2 * p + 1]? = some l := ⟨_, List.getElem?_eq_getElem (by omega)⟩
  unfold childH
  rw [hl]
  cases hr : zs[2 * p + 2]? with
  | none =>
    refine ⟨l, hl, .inl rfl, fun s u hs hsp ns hu => ?_⟩
    have ns : s ≠ 2 * p + 1 := ns
    have : s = 2 * p + 2 := by omega
    rw [this, hr] at hu
    exact nomatch hu
  | some r =>
    cases e : lt l r with
    | true =>
      refine ⟨l, by simp [e, hl], .inl (by simp [e]), fun s u hs hsp ns hu => ?_⟩
      simp only [e, if_true] at ns
      have : s = 2 * p + 2 := by omega
      rw [this, hr] at hu
      cases hu
      exact O.asym _ _ e
    | false =>
      refine ⟨r, by simp [e, hr], .inr (by simp [e]), fun s u hs hsp ns hu => ?_⟩
      simp only [e] at ns
      have ns : s ≠ 2 * p + 2 := ns
      have : s = 2 * p + 1 := by omega
      rw [this, hl] at hu
      cases hu
      exact e
theorem down_up (O : StrictO lt) : ∀ (n : Nat) (zs : List α) (p : Nat), zs.length ≤ n + p → p < zs.length → DnI lt zs p → UpI lt (downH lt n zs p).1 (downH lt n zs p).2 ∧ (downH lt n zs p).2 < zs.length
  | 0, zs, p, hn, hp, _ => absurd hp (by omega)
  | n + 1, zs, p, hn, hp, h => by
    unfold downH
    obtain ⟨h1, h2⟩ := h
    by_cases hl : p < zs.length / 2
    · rw [if_pos hl]
      obtain ⟨y, hy, hc, hs⟩ := child_ok O hl
      obtain ⟨x, hx⟩ : ∃ x, zs[p]? = some x := ⟨_, List.getElem?_eq_getElem hp⟩
      have lc := (List.getElem?_eq_some_iff.mp hy).1
      have cp : (childH lt zs p - 1) / 2 = p := by omega
      have cpos : p < childH lt zs p := by omega
      generalize childH lt zs p = c at hy hc hs lc cp cpos ⊢
      have ih := down_up O n (swapH zs c p) c (by rw [swapH_length]; omega) (by rw [swapH_length]; exact lc) ⟨fun i hi nic nip u v hu hv => ?_, fun _ g hg hgc u v hu hv => ?_⟩
      · rw [swapH_length] at ih
        exact ih
      · rw [swap_at hy hx] at hu hv
        by_cases hip : i = p
        · subst hip
          rw [if_pos rfl] at hu
          rw [if_neg (by omega), if_neg (by omega)] at hv
          cases hu
          exact h2 hi c (by omega) cp _ v hy hv
        · rw [if_neg hip, if_neg nic] at hu
          by_cases hpp : (i - 1) / 2 = p
          · rw [if_pos hpp] at hv
            cases hv
            exact hs i u hi hpp nic hu
          · rw [if_neg hpp, if_neg nip] at hv
            exact h1 i hi hip hpp u v hu hv
      · rw [swap_at hy hx] at hu hv
        rw [cp, if_pos rfl] at hv
        cases hv
        rw [if_neg (by omega), if_neg (by omega)] at hu
        exact h1 g hg (by omega) (by omega) u _ hu (by rw [hgc]; exact hy)
    · rw [if_neg hl]
      refine ⟨⟨fun i hi nip u v hu hv => ?_, fun _ c hc hcp u v hu _ => ?_⟩, hp⟩
      · have li : i < zs.length := (List.getElem?_eq_some_iff.mp hu).1
        exact h1 i hi nip (by omega) u v hu hv
      · have lc : c < zs.length := (List.getElem?_eq_some_iff.mp hu).1
        have hcp : (c - 1) / 2 = p := hcp
        omega
theorem push_heap (O : StrictO lt) {zs : List α} (h : HeapP lt zs) (z : α) : HeapP lt (pushH lt zs z) := by
  unfold pushH
  refine up_heap O _ _ _ (Nat.lt_succ_self _) (by rw [List.length_append]; exact Nat.lt_succ_self _) ⟨fun i hi ne x y hx hy => ?_, fun _ c hc hcp x y hx _ => ?_⟩
  · have li := (List.getElem?_eq_some_iff.mp hx).1
    rw [List.length_append] at li
    have li : i < zs.length + 1 := li
    rw [List.getElem?_append_left (by omega)] at hx
    rw [List.getElem?_append_left (by omega)] at hy
    exact h i hi x y hx hy
  · have lc := (List.getElem?_eq_some_iff.mp hx).1
    rw [List.length_append] at lc
    have lc : c < zs.length + 1 := lc
    omega
theorem rest_heap (O : StrictO lt) {zs : List α} (h : HeapP lt zs) : HeapP lt (restH lt zs) := by
  unfold restH
  cases hl : zs.getLast? with
  | none => exact fun i hi x y hx => nomatch hx
  | some z =>
    show HeapP lt (if zs.length = 1 then [] else _)
    by_cases h1 : zs.length = 1
    · rw [if_pos h1]
      exact fun i hi x y hx => nomatch hx
    · rw [if_neg h1]
      have pos : 0 < zs.length := by
        rcases zs with _ | ⟨a, r⟩
        · exact nomatch hl
        · exact Nat.succ_pos _
      have ld : (zs.dropLast.set 0 z).length = zs.length - 1 := by rw [List.length_set, List.length_dropLast]
      have D : DnI lt (zs.dropLast.set 0 z) 0 := by
        refine ⟨fun i hi _ np x y hx hy => ?_, fun c => absurd c (Nat.lt_irrefl _)⟩
        have li := (List.getElem?_eq_some_iff.mp hx).1
        rw [ld] at li
        rw [List.getElem?_set_ne (by omega), List.getElem?_dropLast, if_pos li] at hx
        rw [List.getElem?_set_ne (by omega), List.getElem?_dropLast, if_pos (by omega)] at hy
        exact h i hi x y hx hy
      obtain ⟨g1, g2⟩ := down_up O zs.length (zs.dropLast.set 0 z) 0 (by rw [ld]; omega) (by rw [ld]; omega) D
      have lp := (down_perm (lt := lt) zs.length (zs.dropLast.set 0 z) 0).length_eq
      rw [ld] at g2 lp
      exact up_heap O _ _ _ g2 (by rw [lp]; exact g2) g1
theorem heap_one (z : α) : HeapP lt [z] := fun i hi x y hx => by
  have := (List.getElem?_eq_some_iff.mp hx).1
  exact absurd this (by show ¬ i < 1; omega)
end
end Sg
set_option Elab.async false
set_option linter.all false
set_option maxRecDepth 100000
set_option maxHeartbeats 4000000
namespace Sg
/-! ## the order of the queue's items -/
theorem plLt_asym {p q : Plc} (h : plLt p q = true) : plLt q p = false := by
  unfold plLt at h ⊢
  simp only [Bool.or_eq_true, Bool.and_eq_true, decide_eq_true_eq] at h
  simp only [Bool.or_eq_false_iff, Bool.and_eq_false_iff, decide_eq_false_iff_not]
  omega
theorem plLt_neg {p q r : Plc} (h : plLt p q = false) (g : plLt q r = false) : plLt p r = false := by
  unfold plLt at h g ⊢
  simp only [Bool.or_eq_false_iff, Bool.and_eq_false_iff, decide_eq_false_iff_not] at h g ⊢
  omega
theorem plLt_eq {p q : Plc} (h : plLt p q = false) (g : plLt q p = false) : p = q := by
  unfold plLt at h g
  simp only [Bool.or_eq_false_iff, Bool.and_eq_false_iff, decide_eq_false_iff_not] at h g
  exact Prod.ext (by omega) (by omega)
section
variable {α : Type} [DecidableEq α] {lt : α → α → Bool}
/-- by size, as tuples are compared -/
def lexG (lt : α → α → Bool) : List α → List α → Bool
  | _, [] => false
  | [], _ :: _ => true
  | x :: xs, y :: ys => if x = y then lexG lt xs ys else lt x y
variable (as : ∀ x y, lt x y = true → lt y x = false) (ng : ∀ x y z, lt x y = false → lt y z = false → lt x z = false) (eq : ∀ x y, lt x y = false → lt y x = false → x = y)
theorem lexG_irr : ∀ xs : List α, lexG lt xs xs = false
  | [] => rfl
  | x :: xs => by show (if x = x then lexG lt xs xs else _) = false; rw [if_pos rfl]; exact lexG_irr xs
include as in
theorem lexG_asym : ∀ xs ys : List α, lexG lt xs ys = true → lexG lt ys xs = false
  | [], [], h => nomatch h
  | [], _ :: _, _ => rfl
  | _ :: _, [], h => nomatch h
  | x :: xs, y :: ys, h => by
    have h : (if x = y then lexG lt xs ys else lt x y) = true := h
    show (if y = x then lexG lt ys xs else lt y x) = false
    by_cases e : x = y
    · rw [if_pos e] at h; rw [if_pos e.symm]; exact lexG_asym xs ys h
    · rw [if_neg e] at h; rw [if_neg (fun z => e z.symm)]; exact as _ _ h
include as ng eq in
theorem lexG_neg : ∀ xs ys zs : List α, lexG lt xs ys = false → lexG lt ys zs = false → lexG lt xs zs = false
  | _, _, [], _, _ => by unfold lexG; rfl
  | [], [], _ :: _, _, g => nomatch g
  | _ :: _, [], _ :: _, _, g => nomatch g
  | [], _ :: _, _ :: _, h, _ => nomatch h
  | x :: xs, y :: ys, z :: zs, h, g => by
    have h : (if x = y then lexG lt xs ys else lt x y) = false := h
    have g : (if y = z then lexG lt ys zs else lt y z) = false := g
    show (if x = z then lexG lt xs zs else lt x z) = false
    by_cases e1 : x = y
    · subst e1
      rw [if_pos rfl] at h
      by_cases e2 : x = z
      · rw [if_pos e2] at g ⊢; exact lexG_neg xs ys zs h g
      · rw [if_neg e2] at g ⊢; exact g
    · rw [if_neg e1] at h
      by_cases e2 : y = z
      · subst e2; rw [if_neg e1]; exact h
      · rw [if_neg e2] at g
        have k := ng _ _ _ h g
        by_cases e3 : x = z
        · subst e3
          -- then x and y are one another's equals
          exact absurd (eq _ _ h g) e1
        · rw [if_neg e3]; exact k
include eq in
theorem lexG_eq : ∀ xs ys : List α, lexG lt xs ys = false → lexG lt ys xs = false → xs = ys
  | [], [], _, _ => rfl
  | [], _ :: _, h, _ => nomatch h
  | _ :: _, [], _, g => nomatch g
  | x :: xs, y :: ys, h, g => by
    have h : (if x = y then lexG lt xs ys else lt x y) = false := h
    have g : (if y = x then lexG lt ys xs else lt y x) = false := g
    by_cases e : x = y
    · rw [if_pos e] at h; rw [if_pos e.symm] at g
      rw [e, lexG_eq xs ys h g]
    · rw [if_neg e] at h; rw [if_neg (fun z => e z.symm)] at g
      exact absurd (eq _ _ h g) e
end
def ltZ' (x y : Int) : Bool := decide (x < y)
theorem lexI_g : ∀ xs ys : List Int, lexI xs ys = lexG ltZ' xs ys
  | _, [] => by unfold lexI lexG; rfl
  | [], _ :: _ => rfl
  | x :: xs, y :: ys => by show (if x = y then lexI xs ys else _) = if x = y then lexG ltZ' xs ys else _; rw [lexI_g xs ys]; rfl
theorem lexP_g : ∀ xs ys : List Plc, lexP xs ys = lexG plLt xs ys
  | _, [] => by unfold lexP lexG; rfl
  | [], _ :: _ => rfl
  | x :: xs, y :: ys => by show (if x = y then lexP xs ys else _) = if x = y then lexG plLt xs ys else _; rw [lexP_g xs ys]
theorem zas (x y : Int) (h : ltZ' x y = true) : ltZ' y x = false := by unfold ltZ' at h ⊢; rw [decide_eq_true_eq] at h; rw [decide_eq_false_iff_not]; omega
theorem zng (x y z : Int) (h : ltZ' x y = false) (g : ltZ' y z = false) : ltZ' x z = false := by unfold ltZ' at h g ⊢; rw [decide_eq_false_iff_not] at h g ⊢; omega
theorem zeq (x y : Int) (h : ltZ' x y = false) (g : ltZ' y x = false) : x = y := by unfold ltZ' at h g; rw [decide_eq_false_iff_not] at h g; omega
theorem lexI_asym (xs ys : List Int) (h : lexI xs ys = true) : lexI ys xs = false := by rw [lexI_g] at h ⊢; exact lexG_asym zas _ _ h
theorem lexI_neg (xs ys zs : List Int) (h : lexI xs ys = false) (g : lexI ys zs = false) : lexI xs zs = false := by rw [lexI_g] at h g ⊢; exact lexG_neg zas zng zeq _ _ _ h g
theorem lexI_eq (xs ys : List Int) (h : lexI xs ys = false) (g : lexI ys xs = false) : xs = ys := by rw [lexI_g] at h g; exact lexG_eq zeq _ _ h g
theorem lexI_irr (xs : List Int) : lexI xs xs = false := by rw [lexI_g]; exact lexG_irr xs
theorem lexP_asym (xs ys : List Plc) (h : lexP xs ys = true) : lexP ys xs = false := by rw [lexP_g] at h ⊢; exact lexG_asym (lt := plLt) (fun _ _ h => plLt_asym h) _ _ h
theorem lexP_neg (xs ys zs : List Plc) (h : lexP xs ys = false) (g : lexP ys zs = false) : lexP xs zs = false := by rw [lexP_g] at h g ⊢; exact lexG_neg (lt := plLt) (fun _ _ h => plLt_asym h) (fun _ _ _ h g => plLt_neg h g) (fun _ _ h g => plLt_eq h g) _ _ _ h g
/-- the sum, then by size -/
def wLt (x y : Int × List Int) : Bool := if x.1 = y.1 then lexI x.2 y.2 else decide (x.1 < y.1)
theorem wLt_asym {x y : Int × List Int} (h : wLt x y = true) : wLt y x = false := by
  unfold wLt at h ⊢
  by_cases e : x.1 = y.1
  · rw [if_pos e] at h; rw [if_pos e.symm]; exact lexI_asym _ _ h
  · rw [if_neg e, decide_eq_true_eq] at h; rw [if_neg (fun z => e z.symm), decide_eq_false_iff_not]; omega
theorem wLt_neg {x y z : Int × List Int} (h : wLt x y = false) (g : wLt y z = false) : wLt x z = false := by
  unfold wLt at h g ⊢
  by_cases e1 : x.1 = y.1
  · rw [if_pos e1] at h
    by_cases e2 : y.1 = z.1
    · rw [if_pos e2] at g; rw [if_pos (e1.trans e2)]; exact lexI_neg _ _ _ h g
    · rw [if_neg e2] at g; rw [e1, if_neg e2]; exact g
  · rw [if_neg e1, decide_eq_false_iff_not] at h
    by_cases e2 : y.1 = z.1
    · rw [← e2, if_neg e1, decide_eq_false_iff_not]; exact h
    · rw [if_neg e2, decide_eq_false_iff_not] at g
      rw [if_neg (by omega), decide_eq_false_iff_not]; omega
theorem wLt_eq {x y : Int × List Int} (h : wLt x y = false) (g : wLt y x = false) : x = y := by
  unfold wLt at h g
  by_cases e : x.1 = y.1
  · rw [if_pos e] at h; rw [if_pos e.symm] at g
    exact Prod.ext e (lexI_eq _ _ h g)
  · rw [if_neg e, decide_eq_false_iff_not] at h; rw [if_neg (fun z => e z.symm), decide_eq_false_iff_not] at g
    omega
def itW (x : It) : Int × List Int := (x.1, x.2.1)
theorem itLt_w (x y : It) : itLt x y = if itW x = itW y then lexP x.2.2 y.2.2 else wLt (itW x) (itW y) := by
  unfold itLt wLt itW
  by_cases e1 : x.1 = y.1
  · by_cases e2 : x.2.1 = y.2.1 <;> simp [e1, e2]
  · simp [e1]
theorem itLt_strict : StrictO itLt := by
  refine ⟨fun x y h => ?_, fun x y z h g => ?_⟩
  · rw [itLt_w] at h ⊢
    by_cases e : itW x = itW y
    · rw [if_pos e] at h; rw [if_pos e.symm]; exact lexP_asym _ _ h
    · rw [if_neg e] at h; rw [if_neg (fun z => e z.symm)]; exact wLt_asym h
  · rw [itLt_w] at h g ⊢
    by_cases e1 : itW x = itW y
    · rw [if_pos e1] at h
      by_cases e2 : itW y = itW z
      · rw [if_pos e2] at g; rw [if_pos (e1.trans e2)]; exact lexP_neg _ _ _ h g
      · rw [if_neg e2] at g; rw [e1, if_neg e2]; exact g
    · rw [if_neg e1] at h
      by_cases e2 : itW y = itW z
      · rw [← e2, if_neg e1]; exact h
      · rw [if_neg e2] at g
        have k := wLt_neg h g
        by_cases e3 : itW x = itW z
        · rw [e3] at h; exact absurd (wLt_eq h g) (by rw [← e3]; exact e1)
        · rw [if_neg e3]; exact k
/-- what is not less than another item has no less waits -/
theorem itLt_le {x y : It} (h : itLt x y = false) : wLt (itW x) (itW y) = false := by
  rw [itLt_w] at h
  by_cases e : itW x = itW y
  · rw [e]
    unfold wLt
    rw [if_pos rfl]; exact lexI_irr _
  · rw [if_neg e] at h; exact h
end Sg
set_option Elab.async false
set_option linter.all false
set_option maxRecDepth 100000
set_option maxHeartbeats 4000000
namespace Sg
/-! ## the search tells the least waits -/
/-- as runW, with a bound on what is gone on from -/
def runE (work : List Int) (d : Nat) : Nat → Nat → List It → List SKey → Option (Option (List Int))
  | 0, _, _, _ => none
  | n + 1, e, q, seen => match q[0]? with
    | none => some none
    | some it => if it.2.1.length + 1 = work.length then some (some it.2.1) else
        if (it.2.1.length, it.2.2) ∈ seen then runE work d n e (restH itLt q) seen
        else if e = 0 then none
        else runE work d n (e - 1) (pushAll (restH itLt q) it (nextTaken work d (it.2.1.length + 1) it.2.2)) ((it.2.1.length, it.2.2) :: seen)
def goW (work : List Int) (d : Nat) : Nat → List Plc → List Nat → Option (List Plc)
  | _, tk, [] => some tk
  | at_, tk, w :: r => match nextOne work d at_ tk w with
    | none => none
    | some x => goW work d (at_ + 1) x.2 r
theorem goW_app (work : List Int) (d : Nat) : ∀ (u v : List Nat) (at_ : Nat) (tk : List Plc), goW work d at_ tk (u ++ v) = (goW work d at_ tk u).bind fun tk' => goW work d (at_ + u.length) tk' v
  | [], v, at_, tk => rfl
  | w :: u, v, at_, tk => by
    show (match nextOne work d at_ tk w with
      | none => none
      | some x => goW work d (at_ + 1) x.2 (u ++ v)) = Option.bind (match nextOne work d at_ tk w with
      | none => none
      | some x => goW work d (at_ + 1) x.2 u) _
    cases nextOne work d at_ tk w with
    | none => rfl
    | some x =>
      show goW work d (at_ + 1) x.2 (u ++ v) = _
      rw [goW_app work d u v]
      show _ = (goW work d (at_ + 1) x.2 u).bind _
      congr 1
      funext tk'
      rw [List.length_cons, show at_ + 1 + u.length = at_ + (u.length + 1) from by omega]
def wI (v : List Nat) : List Int := v.map fun (n : Nat) => (n : Int)
theorem wI_inj : ∀ {u v : List Nat}, wI u = wI v → u = v
  | [], [], _ => rfl
  | [], _ :: _, h => nomatch h
  | _ :: _, [], h => nomatch h
  | a :: u, b :: v, h => by
    have h : (a : Int) :: wI u = (b : Int) :: wI v := h
    obtain ⟨h1, h2⟩ := List.cons.inj h
    rw [wI_inj h2, show a = b from by omega]
theorem wI_len (v : List Nat) : (wI v).length = v.length := List.length_map _
theorem wI_app (u v : List Nat) : wI (u ++ v) = wI u ++ wI v := List.map_append
def Wt (v : List Nat) : Int × List Int := ((wI v).sum, wI v)
theorem wI_pos : ∀ v : List Nat, 0 ≤ (wI v).sum
  | [] => Int.le_refl _
  | a :: v => by show 0 ≤ ((a : Int) :: wI v).sum; rw [List.sum_cons]; have := wI_pos v; omega
theorem sum_app (u v : List Nat) : (wI (u ++ v)).sum = (wI u).sum + (wI v).sum := by rw [wI_app, List.sum_append]
theorem lexI_pre : ∀ p r : List Int, lexI (p ++ r) p = false
  | [], r => by cases r <;> rfl
  | x :: p, r => by show (if x = x then lexI (p ++ r) p else _) = false; rw [if_pos rfl]; exact lexI_pre p r
theorem lexI_cancel : ∀ (u v t : List Int), u.length = v.length → lexI u v = true → lexI (u ++ t) (v ++ t) = true
  | [], [], _, _, h => nomatch h
  | [], _ :: _, _, h, _ => nomatch h
  | _ :: _, [], _, h, _ => nomatch h
  | x :: u, y :: v, t, hl, h => by
    have h : (if x = y then lexI u v else decide (x < y)) = true := h
    show (if x = y then lexI (u ++ t) (v ++ t) else decide (x < y)) = true
    by_cases e : x = y
    · rw [if_pos e] at h ⊢; exact lexI_cancel u v t (Nat.succ.inj hl) h
    · rw [if_neg e] at h ⊢; exact h
theorem wLt_pre (p r : List Nat) : wLt (Wt (p ++ r)) (Wt p) = false := by
  unfold wLt Wt
  have := wI_pos r
  rw [sum_app]
  dsimp only
  split
  · rw [wI_app]; exact lexI_pre _ _
  · rw [decide_eq_false_iff_not]; omega
theorem wLt_cancel {u v t : List Nat} (hl : u.length = v.length) (h : wLt (Wt u) (Wt v) = true) : wLt (Wt (u ++ t)) (Wt (v ++ t)) = true := by
  unfold wLt Wt at h ⊢
  rw [sum_app, sum_app]
  dsimp only at h ⊢
  by_cases e : (wI u).sum = (wI v).sum
  · rw [if_pos e] at h
    rw [if_pos (by omega), wI_app, wI_app]
    exact lexI_cancel _ _ _ (by rw [wI_len, wI_len]; exact hl) h
  · rw [if_neg e, decide_eq_true_eq] at h
    rw [if_neg (by omega), decide_eq_true_eq]; omega
theorem Wt_inj {u v : List Nat} (h : Wt u = Wt v) : u = v := wI_inj (congrArg Prod.snd h)
section
variable (work : List Int) (d : Nat)
abbrev T0 : List Plc := [(work.getD 0 0, 0)]
structure Fz (v : List Nat) : Prop where
  len : v.length + 1 = work.length
  lt : ∀ w ∈ v, w < d
  go : (goW work d 1 (T0 work) v).isSome = true
structure Best (ws : List Nat) : Prop where
  fz : Fz work d ws
  least : ∀ v, Fz work d v → wLt (Wt v) (Wt ws) = false
/-- an item that the search comes to -/
structure Item (it : It) (v : List Nat) (tk : List Plc) : Prop where
  eq : it = ((wI v).sum, wI v, tk)
  go : goW work d 1 (T0 work) v = some tk
  lt : ∀ w ∈ v, w < d
  len : v.length + 1 ≤ work.length
/-- all keys -/
def allV : Nat → List (List Nat)
  | 0 => [[]]
  | l + 1 => (allV l).flatMap fun v => (List.range d).map fun w => v ++ [w]
theorem allV_mem : ∀ (l : Nat) (v : List Nat), v.length = l → (∀ w ∈ v, w < d) → v ∈ allV d l
  | 0, v, h, _ => by rw [List.eq_nil_of_length_eq_zero h]; exact List.mem_singleton.mpr rfl
  | l + 1, v, h, hw => by
    rcases List.eq_nil_or_concat v with rfl | ⟨u, w, rfl⟩
    · exact nomatch h
    · rw [List.concat_eq_append] at h hw ⊢
      rw [List.length_append] at h
      refine List.mem_flatMap.mpr ⟨u, allV_mem l u (Nat.succ.inj h) fun x hx => hw x (List.mem_append_left _ hx), List.mem_map.mpr ⟨w, List.mem_range.mpr (hw w (List.mem_append_right _ (List.mem_singleton.mpr rfl))), rfl⟩⟩
theorem next_mem {at_ : Nat} {tk : List Plc} {x : Int × List Plc} : x ∈ nextTaken work d at_ tk ↔ ∃ w, w < d ∧ nextOne work d at_ tk w = some x := by
  unfold nextTaken
  rw [List.mem_filterMap]
  constructor
  · rintro ⟨w, hw, e⟩; exact ⟨w, List.mem_range.mp hw, e⟩
  · rintro ⟨w, hw, e⟩; exact ⟨w, List.mem_range.mpr hw, e⟩
theorem next_w {at_ : Nat} {tk : List Plc} {w : Nat} {x : Int × List Plc} (h : nextOne work d at_ tk w = some x) : x.1 = (w : Int) := by
  unfold nextOne at h
  split at h
  · exact nomatch h
  · rw [← Option.some.inj h]
theorem push_mem (it : It) : ∀ (ns : List (Int × List Plc)) (q : List It) (z : It), z ∈ pushAll q it ns ↔ z ∈ q ∨ ∃ w ∈ ns, z = longer it w
  | [], q, z => by
    show z ∈ q ↔ _
    simp
  | w :: ns, q, z => by
    show z ∈ pushAll (pushH itLt q (longer it w)) it ns ↔ _
    rw [push_mem it ns, (push_perm q (longer it w)).mem_iff, List.mem_append, List.mem_singleton]
    constructor
    · rintro ((h | h) | ⟨x, hx, e⟩)
      · exact .inl h
      · exact .inr ⟨w, List.mem_cons_self, h⟩
      · exact .inr ⟨x, List.mem_cons_of_mem _ hx, e⟩
    · rintro (h | ⟨x, hx, e⟩)
      · exact .inl (.inl h)
      · rcases List.mem_cons.mp hx with rfl | hx
        · exact .inl (.inr e)
        · exact .inr ⟨x, hx, e⟩
theorem push_heapA (it : It) : ∀ (ns : List (Int × List Plc)) (q : List It), HeapP itLt q → HeapP itLt (pushAll q it ns)
  | [], _, h => h
  | w :: ns, q, h => push_heapA it ns _ (push_heap itLt_strict h _)
theorem item_next {it : It} {v : List Nat} {tk : List Plc} (h : Item work d it v tk) (n : v.length + 1 ≠ work.length) {w : Nat} {x : Int × List Plc} (hw : w < d) (hx : nextOne work d (v.length + 1) tk w = some x) : Item work d (longer it x) (v ++ [w]) x.2 := by
  have ln := h.len
  refine ⟨?_, ?_, fun y hy => ?_, by rw [List.length_append]; show v.length + 1 + 1 ≤ _; omega⟩
  · rw [h.eq]
    unfold longer
    dsimp only
    rw [sum_app, wI_app, next_w work d hx]
    show _ = ((wI v).sum + ((w : Int) :: []).sum, _)
    rw [List.sum_cons, List.sum_nil, Int.add_zero]; rfl
  · rw [goW_app, h.go]
    show goW work d (1 + v.length) tk [w] = _
    rw [show 1 + v.length = v.length + 1 from by omega]
    show (match nextOne work d (v.length + 1) tk w with
      | none => none
      | some x => goW work d (v.length + 1 + 1) x.2 []) = _
    rw [hx]; rfl
  · rcases List.mem_append.mp hy with hy | hy
    · exact h.lt y hy
    · rw [List.mem_singleton.mp hy]; exact hw
/-- where the search stands: what is looked for is still to come -/
structure Way (ws : List Nat) (q : List It) (seen : List SKey) : Prop where
  way : ∃ p r, p ++ r = ws ∧ (∃ it tk, it ∈ q ∧ Item work d it p tk) ∧ ∀ s t tk, s ++ t = ws → p.length ≤ s.length → goW work d 1 (T0 work) s = some tk → (s.length, tk) ∉ seen
theorem item_uniq {it : It} {u v : List Nat} {tk tl : List Plc} (h : Item work d it u tk) (g : Item work d it v tl) : u = v ∧ tk = tl := by
  have e := h.eq.symm.trans g.eq
  have e2 := congrArg (fun x : It => x.2.1) e
  have e3 := congrArg (fun x : It => x.2.2) e
  exact ⟨wI_inj e2, e3⟩
end
end Sg
set_option Elab.async false
set_option linter.all false
set_option maxRecDepth 100000
set_option maxHeartbeats 4000000
namespace Sg
/-! ## places that are told from the first tick on -/
theorem modEq {d a b c : Int} (h0 : 0 ≤ a) (h1 : a < d) : (a + c) % d = b % d ↔ a = (b - c) % d := by
  constructor
  · intro h
    rw [← Int.emod_sub_emod, ← h, Int.emod_sub_emod, Int.add_sub_cancel, Int.emod_eq_of_lt h0 h1]
  · intro h
    rw [h, Int.emod_add_emod, Int.sub_add_cancel]
def spotAt (work : List Int) (d at_ total w : Nat) : Plc := (work.getD at_ 0, ((at_ + total + w : Nat) : Int) % (d : Int))
def lawOne (work : List Int) (d at_ total : Nat) (tk : List Plc) (w : Nat) : Option (List Plc) :=
  if work.getD at_ 0 = -1 then some tk else if spotAt work d at_ total w ∈ tk then none else some (sortP (tk ++ [spotAt work d at_ total w]))
def goL (work : List Int) (d : Nat) : Nat → Nat → List Plc → List Nat → Option (List Plc)
  | _, _, tk, [] => some tk
  | at_, total, tk, w :: r => match lawOne work d at_ total tk w with
    | none => none
    | some t => goL work d (at_ + 1) (total + w) t r
theorem moved_mem {d w : Nat} {tk : List Plc} {x b : Int} : (x, b) ∈ movedBy d w tk ↔ ∃ a, (x, a) ∈ tk ∧ (a + (w : Int) + 1) % (d : Int) = b := by
  unfold movedBy
  rw [List.mem_map]
  constructor
  · rintro ⟨p, hp, e⟩
    obtain ⟨e1, e2⟩ := Prod.mk.inj e
    exact ⟨p.2, by rw [← e1]; exact hp, e2⟩
  · rintro ⟨a, ha, e⟩
    exact ⟨(x, a), ha, by rw [← e]⟩
theorem needed_mem {c : List Int} {ps : List Plc} {p : Plc} : p ∈ needed c ps ↔ p ∈ ps ∧ p.1 ∈ c ∧ p.1 ≠ -1 := by
  unfold needed
  rw [(sortP_perm _).mem_iff, List.mem_filter, Bool.and_eq_true, decide_eq_true_eq, decide_eq_true_eq]
structure RelP (work : List Int) (d at_ total : Nat) (tW tL : List Plc) : Prop where
  rng : ∀ p ∈ tW, 0 ≤ p.2 ∧ p.2 < (d : Int)
  st : ∀ p ∈ tW, p.1 ≠ -1
  eq : ∀ x ∈ work.drop at_, x ≠ -1 → ∀ m : Int, ((x, m % (d : Int)) ∈ tL ↔ (x, ((at_ : Int) - 1 + (total : Nat) - m) % (d : Int)) ∈ tW)
theorem rel_first {work : List Int} {d : Nat} (h0 : work.getD 0 0 ≠ -1) (hd : 1 ≤ d) : RelP work d 1 0 (T0 work) (T0 work) := by
  have h1 : (0 : Int) < (d : Int) := by omega
  refine ⟨fun p hp => ?_, fun p hp => ?_, fun x hx nx m => ?_⟩
  · rw [List.mem_singleton.mp hp]; exact ⟨Int.le_refl _, h1⟩
  · rw [List.mem_singleton.mp hp]; exact h0
  · have e1 : ((1 : Nat) : Int) - 1 + ((0 : Nat) : Int) - m = 0 - m := by omega
    rw [List.mem_singleton, List.mem_singleton, e1]
    constructor
    · intro h
      obtain ⟨e2, e3⟩ := Prod.mk.inj h
      have : (0 - m) % (d : Int) = 0 := by
        rw [← Int.sub_emod_emod, e3, Int.sub_zero, Int.zero_emod]
      rw [e2, this]
    · intro h
      obtain ⟨e2, e3⟩ := Prod.mk.inj h
      have : m % (d : Int) = 0 := by
        have := Int.sub_emod_emod 0 (0 - m) (d : Int)
        rw [e3, Int.sub_zero, Int.zero_emod] at this
        rw [show m = 0 - (0 - m) from by omega]
        exact this.symm
      rw [e2, this]
theorem rel_step {work : List Int} {d at_ total w : Nat} {tW tL : List Plc} (h : RelP work d at_ total tW tL) (hat : at_ < work.length) (hd : 1 ≤ d) :
    (nextOne work d at_ tW w = none ∧ lawOne work d at_ total tL w = none) ∨ ∃ x t, nextOne work d at_ tW w = some x ∧ lawOne work d at_ total tL w = some t ∧ RelP work d (at_ + 1) (total + w) x.2 t := by
  have d0 : (0 : Int) < (d : Int) := by omega
  have ex : work.getD at_ 0 = work[at_] := by rw [List.getD_eq_getElem?_getD, List.getElem?_eq_getElem hat]; rfl
  have hx0 : work.getD at_ 0 ∈ work.drop at_ := by rw [ex, List.drop_eq_getElem_cons hat]; exact List.mem_cons_self
  have sub : ∀ y ∈ work.drop (at_ + 1), y ∈ work.drop at_ := fun y hy => by rw [List.drop_eq_getElem_cons hat]; exact List.mem_cons_of_mem _ hy
  have cast : ((at_ + total + w : Nat) : Int) = (at_ : Int) - 1 + (total : Nat) + ((w : Int) + 1) := by omega
  -- what has moved
  have mv : ∀ (x m : Int), (x, ((at_ : Int) - 1 + (total : Nat) + ((w : Int) + 1) - m) % (d : Int)) ∈ movedBy d w tW ↔ (x, ((at_ : Int) - 1 + (total : Nat) - m) % (d : Int)) ∈ tW := by
    intro x m
    rw [moved_mem]
    constructor
    · rintro ⟨a, ha, e⟩
      obtain ⟨r1, r2⟩ := h.rng _ ha
      have := (modEq (c := (w : Int) + 1) (b := (at_ : Int) - 1 + (total : Nat) + ((w : Int) + 1) - m) r1 r2).mp (by rw [← Int.add_assoc]; exact e)
      rw [show (at_ : Int) - 1 + (total : Nat) + ((w : Int) + 1) - m - ((w : Int) + 1) = (at_ : Int) - 1 + (total : Nat) - m from by omega] at this
      rw [← this]; exact ha
    · intro ha
      refine ⟨_, ha, ?_⟩
      rw [Int.add_assoc, Int.emod_add_emod]
      congr 1
      omega
  generalize hX : work.getD at_ 0 = x0 at hx0
  unfold nextOne lawOne spotAt
  rw [hX, cast]
  by_cases hm : x0 = -1
  · have n1 : ¬ (x0, (0 : Int)) ∈ movedBy d w tW := fun z => by
      obtain ⟨a, ha, _⟩ := moved_mem.mp z
      exact h.st _ ha hm
    rw [if_neg n1, if_pos hm]
    refine .inr ⟨_, _, rfl, rfl, fun p hp => ?_, fun p hp => (needed_mem.mp hp).2.2, fun x hx nx m => ?_⟩
    · obtain ⟨hp, _⟩ := needed_mem.mp hp
      rcases List.mem_append.mp hp with hp | hp
      · obtain ⟨a, _, e⟩ := moved_mem.mp (show (p.1, p.2) ∈ _ from hp)
        rw [← e]
        exact ⟨Int.emod_nonneg _ (by omega), Int.emod_lt_of_pos _ d0⟩
      · rw [List.mem_singleton.mp hp]; exact ⟨Int.le_refl _, d0⟩
    · rw [h.eq x (sub x hx) nx m, needed_mem, List.mem_append, List.mem_singleton]
      have e : ((at_ + 1 : Nat) : Int) - 1 + ((total + w : Nat) : Int) - m = (at_ : Int) - 1 + (total : Nat) + ((w : Int) + 1) - m := by omega
      rw [e, mv x m]
      constructor
      · exact fun z => ⟨.inl z, hx, nx⟩
      · rintro ⟨z | z, _⟩
        · exact z
        · exact absurd ((Prod.mk.inj z).1.trans hm) nx
  · have t1 : (x0, (0 : Int)) ∈ movedBy d w tW ↔ (x0, ((at_ : Int) - 1 + (total : Nat) + ((w : Int) + 1)) % (d : Int)) ∈ tL := by
      rw [h.eq x0 hx0 hm, ← mv x0, Int.sub_self, Int.zero_emod]
    rw [if_neg hm]
    by_cases hin : (x0, (0 : Int)) ∈ movedBy d w tW
    · rw [if_pos hin, if_pos (t1.mp hin)]
      exact .inl ⟨rfl, rfl⟩
    · rw [if_neg hin, if_neg (fun z => hin (t1.mpr z))]
      refine .inr ⟨_, _, rfl, rfl, fun p hp => ?_, fun p hp => (needed_mem.mp hp).2.2, fun x hx nx m => ?_⟩
      · obtain ⟨hp, _⟩ := needed_mem.mp hp
        rcases List.mem_append.mp hp with hp | hp
        · obtain ⟨a, _, e⟩ := moved_mem.mp (show (p.1, p.2) ∈ _ from hp)
          rw [← e]
          exact ⟨Int.emod_nonneg _ (by omega), Int.emod_lt_of_pos _ d0⟩
        · rw [List.mem_singleton.mp hp]; exact ⟨Int.le_refl _, d0⟩
      · rw [(sortP_perm _).mem_iff, List.mem_append, List.mem_singleton, h.eq x (sub x hx) nx m, needed_mem, List.mem_append, List.mem_singleton]
        have e : ((at_ + 1 : Nat) : Int) - 1 + ((total + w : Nat) : Int) - m = (at_ : Int) - 1 + (total : Nat) + ((w : Int) + 1) - m := by omega
        rw [e, mv x m]
        have key : (x, m % (d : Int)) = (x0, ((at_ : Int) - 1 + (total : Nat) + ((w : Int) + 1)) % (d : Int)) ↔ (x, ((at_ : Int) - 1 + (total : Nat) + ((w : Int) + 1) - m) % (d : Int)) = (x0, (0 : Int)) := by
          rw [Prod.mk.injEq, Prod.mk.injEq]
          generalize (at_ : Int) - 1 + (total : Nat) + ((w : Int) + 1) = P
          constructor
          · rintro ⟨a1, a2⟩
            refine ⟨a1, ?_⟩
            rw [← Int.sub_emod_emod, a2, Int.sub_emod_emod, Int.sub_self, Int.zero_emod]
          · rintro ⟨a1, a2⟩
            refine ⟨a1, ?_⟩
            have := Int.sub_emod_emod P (P - m) (d : Int)
            rw [a2, Int.sub_zero, show P - (P - m) = m from by omega] at this
            exact this.symm
        rw [key]
        constructor
        · rintro (z | z)
          · exact ⟨.inl z, hx, nx⟩
          · exact ⟨.inr z, hx, nx⟩
        · exact fun z => z.1
theorem go_iff {work : List Int} {d : Nat} (hd : 1 ≤ d) : ∀ (v : List Nat) (at_ total : Nat) (tW tL : List Plc), RelP work d at_ total tW tL → at_ + v.length ≤ work.length → (goW work d at_ tW v).isSome = (goL work d at_ total tL v).isSome
  | [], _, _, _, _, _, _ => rfl
  | w :: v, at_, total, tW, tL, h, hl => by
    rw [List.length_cons] at hl
    show (match nextOne work d at_ tW w with
      | none => none
      | some x => goW work d (at_ + 1) x.2 v).isSome = (match lawOne work d at_ total tL w with
      | none => none
      | some t => goL work d (at_ + 1) (total + w) t v).isSome
    rcases rel_step (w := w) h (by omega) hd with ⟨e1, e2⟩ | ⟨x, t, e1, e2, h'⟩
    · rw [e1, e2]
    · rw [e1, e2]
      exact go_iff hd v _ _ _ _ h' (by omega)
end Sg
set_option Elab.async false
set_option linter.all false
set_option maxRecDepth 100000
set_option maxHeartbeats 4000000
namespace Sg
/-! ## how many places of a station are taken -/
structure CntI (work : List Int) (d at_ : Nat) (tk : List Plc) : Prop where
  nd : tk.Nodup
  rng : ∀ p ∈ tk, 0 ≤ p.2 ∧ p.2 < (d : Int)
  cnt : ∀ x : Int, x ≠ -1 → (tk.filter fun p => decide (p.1 = x)).length = (work.take at_).count x
theorem take_at {work : List Int} {at_ : Nat} (h : at_ < work.length) : work.take (at_ + 1) = work.take at_ ++ [work.getD at_ 0] := by
  rw [List.take_add_one, List.getD_eq_getElem?_getD, List.getElem?_eq_getElem h]; rfl
theorem filt_one (a r x : Int) : (List.filter (fun p : Plc => decide (p.1 = x)) [(a, r)]).length = List.count x [a] := by
  rw [List.filter_cons, List.count_cons, List.filter_nil, List.count_nil]
  by_cases e : a = x
  · simp [e]
  · simp [e]
theorem cnt_first {work : List Int} {d : Nat} (h : 1 ≤ work.length) (h0 : work.getD 0 0 ≠ -1) (hd : 1 ≤ d) : CntI work d 1 (T0 work) := by
  refine ⟨List.nodup_cons.mpr ⟨List.not_mem_nil, List.nodup_nil⟩, fun p hp => ?_, fun x nx => ?_⟩
  · rw [List.mem_singleton.mp hp]; exact ⟨Int.le_refl _, by show (0 : Int) < d; omega⟩
  · rw [take_at (at_ := 0) (by omega)]
    show (List.filter (fun p : Plc => decide (p.1 = x)) [(work.getD 0 0, 0)]).length = List.count x [work.getD 0 0]
    exact filt_one _ _ _
theorem cnt_step {work : List Int} {d at_ total w : Nat} {tk t : List Plc} (h : CntI work d at_ tk) (hat : at_ < work.length) (hd : 1 ≤ d) (e : lawOne work d at_ total tk w = some t) : CntI work d (at_ + 1) t := by
  have d0 : (0 : Int) < (d : Int) := by omega
  unfold lawOne at e
  split at e
  · rename_i hm
    cases e
    refine ⟨h.nd, h.rng, fun x nx => ?_⟩
    rw [h.cnt x nx, take_at hat, List.count_append, hm]
    have : List.count x [(-1 : Int)] = 0 := by rw [List.count_eq_zero]; intro z; exact nx (List.mem_singleton.mp z)
    omega
  split at e
  · exact nomatch e
  · rename_i hm hin
    cases e
    have pm := sortP_perm (tk ++ [spotAt work d at_ total w])
    refine ⟨pm.nodup_iff.mpr ?_, fun p hp => ?_, fun x nx => ?_⟩
    · rw [List.nodup_append]
      refine ⟨h.nd, List.nodup_cons.mpr ⟨List.not_mem_nil, List.nodup_nil⟩, fun a ha b hb z => ?_⟩
      rw [List.mem_singleton.mp hb] at z
      exact hin (z ▸ ha)
    · rcases List.mem_append.mp (pm.mem_iff.mp hp) with hp | hp
      · exact h.rng p hp
      · rw [List.mem_singleton.mp hp]
        exact ⟨Int.emod_nonneg _ (by omega), Int.emod_lt_of_pos _ d0⟩
    · rw [(pm.filter _).length_eq, List.filter_append, List.length_append, h.cnt x nx, take_at hat, List.count_append]
      congr 1
      show (List.filter (fun p : Plc => decide (p.1 = x)) [(work.getD at_ 0, _)]).length = List.count x [work.getD at_ 0]
      exact filt_one _ _ _
/-- else there is a way -/
theorem some_way {work : List Int} {d : Nat} (hd : 1 ≤ d) (hc : ∀ x : Int, x ≠ -1 → work.count x ≤ d) : ∀ (n at_ total : Nat) (tk : List Plc), at_ + n = work.length → CntI work d at_ tk → ∃ v : List Nat, v.length = n ∧ (∀ w ∈ v, w < d) ∧ (goL work d at_ total tk v).isSome = true
  | 0, _, _, _, _, _ => ⟨[], rfl, (fun w hw => nomatch hw), rfl⟩
  | n + 1, at_, total, tk, hl, h => by
    have d0 : (0 : Int) < (d : Int) := by omega
    have step : ∃ w t, w < d ∧ lawOne work d at_ total tk w = some t := by
      unfold lawOne
      by_cases hm : work.getD at_ 0 = -1
      · exact ⟨0, tk, by omega, by rw [if_pos hm]⟩
      · refine Classical.byContradiction fun no => ?_
        have all : ∀ w, w < d → spotAt work d at_ total w ∈ tk := fun w hw => Classical.byContradiction fun z => no ⟨w, _, hw, by rw [if_neg hm, if_neg z]⟩
        have nd : ((List.range d).map (spotAt work d at_ total)).Nodup := by
          refine List.pairwise_map.mpr (List.Pairwise.imp_of_mem (fun {a b} ha hb ne z => ne ?_) List.nodup_range)
          have ha := List.mem_range.mp ha
          have hb := List.mem_range.mp hb
          have e := (Prod.mk.inj z).2
          have e2 : ((a : Int) + ((at_ + total : Nat) : Int)) % (d : Int) = ((b : Int) + ((at_ + total : Nat) : Int)) % (d : Int) := by
            rw [show (a : Int) + ((at_ + total : Nat) : Int) = ((at_ + total + a : Nat) : Int) from by omega, show (b : Int) + ((at_ + total : Nat) : Int) = ((at_ + total + b : Nat) : Int) from by omega]
            exact e
          have := (modEq (by omega) (by omega)).mp e2
          rw [Int.add_sub_cancel, Int.emod_eq_of_lt (by omega) (by omega)] at this
          omega
        have len := nodup_len_le _ (tk.filter fun p => decide (p.1 = work.getD at_ 0)) nd fun p hp => by
          obtain ⟨w, hw, rfl⟩ := List.mem_map.mp hp
          exact List.mem_filter.mpr ⟨all w (List.mem_range.mp hw), decide_eq_true rfl⟩
        rw [List.length_map, List.length_range, h.cnt _ hm] at len
        have c1 := hc _ hm
        have c2 : (work.take (at_ + 1)).count (work.getD at_ 0) ≤ work.count (work.getD at_ 0) := (List.take_sublist _ _).count_le _
        rw [take_at (by omega), List.count_append, List.count_singleton_self] at c2
        omega
    obtain ⟨w, t, hw, e⟩ := step
    obtain ⟨v, v1, v2, v3⟩ := some_way hd hc n (at_ + 1) (total + w) t (by omega) (cnt_step h (by omega) hd e)
    refine ⟨w :: v, by rw [List.length_cons, v1], fun y hy => ?_, ?_⟩
    · rcases List.mem_cons.mp hy with rfl | hy
      · exact hw
      · exact v2 y hy
    · show (match lawOne work d at_ total tk w with
        | none => none
        | some t => goL work d (at_ + 1) (total + w) t v).isSome = true
      rw [e]; exact v3
/-! ## layer by layer, as the law does it -/
section
variable (work : List Int) (d most : Nat)
variable {work d most}
theorem wsum (v : List Nat) : (wI v).sum = ((v.sum : Nat) : Int) := by
  induction v with
  | nil => rfl
  | cons a v ih => show ((a : Int) :: wI v).sum = _; rw [List.sum_cons, List.sum_cons, ih]; omega
end
end Sg
set_option Elab.async false
set_option linter.all false
set_option maxRecDepth 100000
set_option maxHeartbeats 4000000
set_option Elab.async false
set_option linter.all false
set_option maxRecDepth 100000
set_option maxHeartbeats 4000000
set_option Elab.async false
set_option linter.all false
set_option maxRecDepth 100000
set_option maxHeartbeats 4000000
set_option Elab.async false
set_option linter.all false
set_option maxRecDepth 100000
set_option maxHeartbeats 4000000
namespace Sg
/-! ## how many sets of places there are -/
def subsE : Nat → List Nat → List (List Nat)
  | 0, _ => [[]]
  | _ + 1, [] => []
  | n + 1, a :: r => (subsE n r).map (a :: ·) ++ subsE (n + 1) r
def bn : Nat → Nat → Nat
  | _, 0 => 1
  | 0, _ + 1 => 0
  | m + 1, n + 1 => bn m n + bn m (n + 1)
theorem subsE_len : ∀ (n : Nat) (l : List Nat), (subsE n l).length = bn l.length n
  | 0, l => by cases l <;> rfl
  | n + 1, [] => rfl
  | n + 1, a :: r => by
    show ((subsE n r).map (a :: ·) ++ subsE (n + 1) r).length = bn r.length n + bn r.length (n + 1)
    rw [List.length_append, List.length_map, subsE_len n r, subsE_len (n + 1) r]
theorem subsE_mem : ∀ {l A : List Nat}, A.Sublist l → A ∈ subsE A.length l
  | [], _, h => by cases h; exact List.mem_singleton.mpr rfl
  | a :: r, A, h => by
    cases A with
    | nil => exact List.mem_singleton.mpr rfl
    | cons b B =>
      show b :: B ∈ (subsE B.length r).map (a :: ·) ++ subsE (B.length + 1) r
      cases h with
      | cons _ h => exact List.mem_append_right _ (subsE_mem h)
      | cons_cons _ h => exact List.mem_append_left _ (List.mem_map.mpr ⟨B, subsE_mem h, rfl⟩)
/-- of each station one of its families -/
def plU (fam : Int → List (List Nat)) : List Int → List (List Plc)
  | [] => [[]]
  | s :: r => (fam s).flatMap fun A => (plU fam r).map fun B => A.map (fun (a : Nat) => ((s, (a : Int)) : Plc)) ++ B
def prodL (f : Int → Nat) : List Int → Nat
  | [] => 1
  | s :: r => f s * prodL f r
theorem sum_const (c : Nat) {α : Type} : ∀ l : List α, (l.map fun _ => c).sum = l.length * c
  | [] => (Nat.zero_mul c).symm
  | _ :: l => by rw [List.map_cons, List.sum_cons, sum_const c l, List.length_cons, Nat.succ_mul, Nat.add_comm]
theorem plU_len (fam : Int → List (List Nat)) : ∀ S : List Int, (plU fam S).length = prodL (fun s => (fam s).length) S
  | [] => rfl
  | s :: r => by
    show ((fam s).flatMap fun A => (plU fam r).map fun B => A.map (fun (a : Nat) => ((s, (a : Int)) : Plc)) ++ B).length = (fam s).length * prodL _ r
    rw [List.length_flatMap, show ((fam s).map fun A => ((plU fam r).map fun B => A.map (fun (a : Nat) => ((s, (a : Int)) : Plc)) ++ B).length) = (fam s).map fun _ => (plU fam r).length from List.map_congr_left fun A _ => List.length_map _, sum_const, plU_len fam r]
/-- the ticks of a station -/
def agos (d : Nat) (F : List Plc) (s : Int) : List Nat := (List.range d).filter fun a => decide (((s, (a : Int)) : Plc) ∈ F)
def spread (d : Nat) (F : List Plc) : List Int → List Plc
  | [] => []
  | s :: r => (agos d F s).map (fun (a : Nat) => ((s, (a : Int)) : Plc)) ++ spread d F r
theorem spread_plU {fam : Int → List (List Nat)} {d : Nat} {F : List Plc} : ∀ {S : List Int}, (∀ s ∈ S, agos d F s ∈ fam s) → spread d F S ∈ plU fam S
  | [], _ => List.mem_singleton.mpr rfl
  | s :: r, h => List.mem_flatMap.mpr ⟨_, h s List.mem_cons_self, List.mem_map.mpr ⟨_, spread_plU fun x hx => h x (List.mem_cons_of_mem _ hx), rfl⟩⟩
theorem agos_mem {d : Nat} {F : List Plc} {s : Int} {a : Nat} : a ∈ agos d F s ↔ a < d ∧ ((s, (a : Int)) : Plc) ∈ F := by
  unfold agos; rw [List.mem_filter, List.mem_range, decide_eq_true_eq]
theorem agos_nodup (d : Nat) (F : List Plc) (s : Int) : ((agos d F s).map fun (a : Nat) => ((s, (a : Int)) : Plc)).Nodup := by
  refine List.pairwise_map.mpr (List.Pairwise.imp ?_ ((List.nodup_range (n := d)).filter _))
  intro a b (ne : a ≠ b) z
  have z : ((s, (a : Int)) : Plc) = (s, (b : Int)) := z
  have := (Prod.mk.inj z).2
  exact ne (by omega)
theorem spread_mem {d : Nat} {F : List Plc} {p : Plc} : ∀ {S : List Int}, p ∈ spread d F S ↔ p.1 ∈ S ∧ p ∈ F ∧ 0 ≤ p.2 ∧ p.2 < (d : Int)
  | [] => by unfold spread; simp
  | s :: r => by
    unfold spread
    rw [List.mem_append, List.mem_map, spread_mem (S := r), List.mem_cons]
    constructor
    · rintro (⟨a, ha, rfl⟩ | ⟨h1, h2⟩)
      · obtain ⟨h1, h2⟩ := agos_mem.mp ha
        exact ⟨.inl rfl, h2, by show (0 : Int) ≤ (a : Int); omega, by show (a : Int) < (d : Int); omega⟩
      · exact ⟨.inr h1, h2⟩
    · rintro ⟨rfl | h1, h2⟩
      · have e : ((p.1, ((p.2.toNat : Nat) : Int)) : Plc) = p := Prod.ext rfl (by show ((p.2.toNat : Nat) : Int) = p.2; omega)
        exact .inl ⟨p.2.toNat, agos_mem.mpr ⟨by omega, by rw [e]; exact h2.1⟩, e⟩
      · exact .inr ⟨h1, h2⟩
theorem spread_nodup {d : Nat} {F : List Plc} : ∀ {S : List Int}, S.Nodup → (spread d F S).Nodup
  | [], _ => .nil
  | s :: r, h => by
    obtain ⟨h1, h2⟩ := List.nodup_cons.mp h
    unfold spread
    rw [List.nodup_append]
    refine ⟨agos_nodup _ _ _, spread_nodup h2, fun a ha b hb z => ?_⟩
    obtain ⟨c, _, rfl⟩ := List.mem_map.mp ha
    have := (spread_mem.mp hb).1
    rw [← z] at this
    exact h1 this
theorem perm_of_mem {α : Type} [DecidableEq α] {l m : List α} (h1 : l.Nodup) (h2 : m.Nodup) (h : ∀ x, x ∈ l ↔ x ∈ m) : List.Perm l m := by
  rw [List.perm_iff_count]
  intro x
  have one : ∀ {l : List α}, l.Nodup → l.count x = if x ∈ l then 1 else 0 := fun {l} n => by
    split
    · rename_i hx
      have a := List.nodup_iff_count.mp n x
      have b := List.count_pos_iff.mpr hx
      omega
    · rename_i hx
      exact List.count_eq_zero.mpr hx
  rw [one h1, one h2]
  by_cases hx : x ∈ l
  · rw [if_pos hx, if_pos ((h x).mp hx)]
  · rw [if_neg hx, if_neg (fun z => hx ((h x).mpr z))]
theorem sortP_eq {l m : List Plc} (h : List.Perm l m) : sortP l = sortP m :=
  List.Perm.eq_of_pairwise (le := fun a b => plLe a b = true) (fun a b _ _ h g => plLe_anti h g) (sortP_sorted l) (sortP_sorted m) ((sortP_perm l).trans (h.trans (sortP_perm m).symm))
theorem spread_perm {d : Nat} {F : List Plc} {S : List Int} (hS : S.Nodup) (hF : F.Nodup) (h : ∀ p ∈ F, p.1 ∈ S ∧ 0 ≤ p.2 ∧ p.2 < (d : Int)) : List.Perm (spread d F S) F :=
  perm_of_mem (spread_nodup hS) hF fun p => by
    rw [spread_mem]
    exact ⟨fun z => z.2.1, fun z => ⟨(h p z).1, z, (h p z).2⟩⟩
theorem agos_len {d : Nat} {F : List Plc} {s : Int} (hF : F.Nodup) (h : ∀ p ∈ F, 0 ≤ p.2 ∧ p.2 < (d : Int)) : (agos d F s).length = (F.filter fun p => decide (p.1 = s)).length := by
  have : List.Perm ((agos d F s).map fun (a : Nat) => ((s, (a : Int)) : Plc)) (F.filter fun p => decide (p.1 = s)) := by
    refine perm_of_mem (agos_nodup _ _ _) (hF.filter _) fun p => ?_
    rw [List.mem_map, List.mem_filter, decide_eq_true_eq]
    constructor
    · rintro ⟨a, ha, rfl⟩
      exact ⟨(agos_mem.mp ha).2, rfl⟩
    · rintro ⟨h1, rfl⟩
      have h2 := h p h1
      have e : ((p.1, ((p.2.toNat : Nat) : Int)) : Plc) = p := Prod.ext rfl (by show ((p.2.toNat : Nat) : Int) = p.2; omega)
      exact ⟨p.2.toNat, agos_mem.mpr ⟨by omega, by rw [e]; exact h1⟩, e⟩
  have := this.length_eq
  rw [List.length_map] at this
  exact this
/-! ### stations of a list, each once -/
def nubS : List Int → List Int
  | [] => []
  | x :: r => if x = -1 ∨ x ∈ nubS r then nubS r else x :: nubS r
theorem nubS_mem {x : Int} : ∀ {l : List Int}, x ∈ nubS l ↔ x ∈ l ∧ x ≠ -1
  | [] => by unfold nubS; simp
  | a :: r => by
    unfold nubS
    have ih := nubS_mem (x := x) (l := r)
    split
    · rename_i h
      rw [ih, List.mem_cons]
      constructor
      · rintro ⟨h1, h2⟩; exact ⟨.inr h1, h2⟩
      · rintro ⟨rfl | h1, h2⟩
        · rcases h with h | h
          · exact absurd h h2
          · exact ⟨(nubS_mem.mp h).1, h2⟩
        · exact ⟨h1, h2⟩
    · rename_i h
      rw [List.mem_cons, ih, List.mem_cons]
      constructor
      · rintro (rfl | ⟨h1, h2⟩)
        · exact ⟨.inl rfl, fun z => h (.inl z)⟩
        · exact ⟨.inr h1, h2⟩
      · rintro ⟨rfl | h1, h2⟩
        · exact .inl rfl
        · exact .inr ⟨h1, h2⟩
theorem nubS_nodup : ∀ l : List Int, (nubS l).Nodup
  | [] => .nil
  | a :: r => by
    unfold nubS
    split
    · exact nubS_nodup r
    · rename_i h
      exact List.nodup_cons.mpr ⟨fun z => h (.inr z), nubS_nodup r⟩
theorem nubS_len : ∀ l : List Int, (nubS l).length ≤ l.length
  | [] => Nat.le_refl _
  | a :: r => by
    have := nubS_len r
    unfold nubS
    split
    · rw [List.length_cons]; omega
    · rw [List.length_cons, List.length_cons]; omega
theorem sum_add {α : Type} (f g : α → Nat) : ∀ l : List α, (l.map fun x => f x + g x).sum = (l.map f).sum + (l.map g).sum
  | [] => rfl
  | a :: l => by
    rw [List.map_cons, List.sum_cons, sum_add f g l, List.map_cons, List.map_cons, List.sum_cons, List.sum_cons]; omega
theorem sum_zero {α : Type} (f : α → Nat) : ∀ l : List α, (∀ x ∈ l, f x = 0) → (l.map f).sum = 0
  | [], _ => rfl
  | a :: l, h => by
    rw [List.map_cons, List.sum_cons, sum_zero f l fun x hx => h x (List.mem_cons_of_mem _ hx), h a List.mem_cons_self]
theorem sum_at (y : Int) (c : Nat) : ∀ {S : List Int}, S.Nodup → (S.map fun s => if s = y then c else 0).sum = if y ∈ S then c else 0
  | [], _ => rfl
  | s :: r, h => by
    obtain ⟨h1, h2⟩ := List.nodup_cons.mp h
    rw [List.map_cons, List.sum_cons]
    by_cases e : s = y
    · subst e
      rw [if_pos rfl, if_pos List.mem_cons_self, sum_zero _ _ fun x hx => if_neg fun (z : x = s) => h1 (by rw [← z]; exact hx)]; rfl
    · rw [if_neg e, sum_at y c h2, Nat.zero_add]
      by_cases g : y ∈ r
      · rw [if_pos g, if_pos (List.mem_cons_of_mem _ g)]
      · rw [if_neg g, if_neg fun z => by
          rcases List.mem_cons.mp z with z | z
          · exact e z.symm
          · exact g z]
theorem sum_count {S : List Int} (hS : S.Nodup) : ∀ l : List Int, (S.map fun s => l.count s).sum ≤ l.length
  | [] => by rw [sum_zero _ _ fun x _ => List.count_nil]; exact Nat.le_refl _
  | y :: l => by
    have ih := sum_count hS l
    have : (S.map fun s => (y :: l).count s) = S.map fun s => l.count s + if s = y then 1 else 0 := List.map_congr_left fun s _ => by
      rw [List.count_cons]
      by_cases e : s = y
      · subst e; simp
      · rw [if_neg e, if_neg (by simpa using fun z => e z.symm)]
    rw [this, sum_add, sum_at y 1 hS, List.length_cons]
    split <;> omega
/-! ### the greatest number -/
def maxL : List Nat → Nat
  | [] => 0
  | a :: r => max a (maxL r)
theorem maxL_le {x : Nat} : ∀ {l : List Nat}, x ∈ l → x ≤ maxL l
  | a :: r, h => by
    unfold maxL
    rcases List.mem_cons.mp h with rfl | h
    · omega
    · have := maxL_le h; omega
/-- of so many stations with so many visits in all -/
def mxP (f : Nat → Nat) : Nat → Nat → Nat
  | 0, _ => 1
  | c + 1, m => maxL ((List.range (m + 1)).map fun n => f n * mxP f c (m - n))
theorem mxP_pos {f : Nat → Nat} (h0 : 1 ≤ f 0) : ∀ c m, 1 ≤ mxP f c m
  | 0, _ => Nat.le_refl _
  | c + 1, m => by
    have h := mxP_pos h0 c (m - 0)
    have : f 0 * mxP f c (m - 0) ≤ mxP f (c + 1) m := maxL_le (List.mem_map.mpr ⟨0, List.mem_range.mpr (by omega), rfl⟩)
    exact Nat.le_trans (Nat.le_trans h0 (Nat.le_mul_of_pos_right _ h)) this
theorem prodL_mx {f : Nat → Nat} (h0 : 1 ≤ f 0) {g : Int → Nat} : ∀ {S : List Int} {c m : Nat}, S.length ≤ c → (S.map g).sum ≤ m → prodL (fun s => f (g s)) S ≤ mxP f c m
  | [], c, m, _, _ => mxP_pos h0 c m
  | s :: r, 0, m, h, _ => nomatch h
  | s :: r, c + 1, m, h, hm => by
    rw [List.map_cons, List.sum_cons] at hm
    have ih := prodL_mx h0 (g := g) (S := r) (c := c) (m := m - g s) (Nat.le_of_succ_le_succ h) (by omega)
    exact Nat.le_trans (Nat.mul_le_mul_left _ ih) (maxL_le (List.mem_map.mpr ⟨g s, List.mem_range.mpr (by omega), rfl⟩))
/-! ### the places that the search keeps -/
structure KeepI (work : List Int) (d at_ : Nat) (tk : List Plc) : Prop where
  nd : tk.Nodup
  rng : ∀ p ∈ tk, 0 ≤ p.2 ∧ p.2 < (d : Int)
  cnt : ∀ x : Int, (tk.filter fun p => decide (p.1 = x)).length ≤ (work.take at_).count x
theorem keep_first {work : List Int} {d : Nat} (h : 1 ≤ work.length) (hd : 1 ≤ d) : KeepI work d 1 (T0 work) := by
  refine ⟨List.nodup_cons.mpr ⟨List.not_mem_nil, List.nodup_nil⟩, fun p hp => ?_, fun x => ?_⟩
  · rw [List.mem_singleton.mp hp]; exact ⟨Int.le_refl _, by show (0 : Int) < d; omega⟩
  · rw [take_at (at_ := 0) (by omega)]
    show (List.filter (fun p : Plc => decide (p.1 = x)) [(work.getD 0 0, 0)]).length ≤ List.count x [work.getD 0 0]
    rw [filt_one]; exact Nat.le_refl _
theorem moved_filter (d w : Nat) (x : Int) : ∀ tk : List Plc, ((movedBy d w tk).filter fun p => decide (p.1 = x)).length = (tk.filter fun p => decide (p.1 = x)).length
  | [] => rfl
  | p :: tk => by
    have ih := moved_filter d w x tk
    show ((((p.1, (p.2 + (w : Int) + 1) % (d : Int)) : Plc) :: movedBy d w tk).filter fun p => decide (p.1 = x)).length = _
    rw [List.filter_cons, List.filter_cons]
    dsimp only
    by_cases e : p.1 = x
    · rw [if_pos (decide_eq_true e), if_pos (decide_eq_true e), List.length_cons, List.length_cons, ih]
    · rw [if_neg (by simpa using e), if_neg (by simpa using e), ih]
theorem moved_nodup {d w : Nat} (hd : 1 ≤ d) : ∀ {tk : List Plc}, tk.Nodup → (∀ p ∈ tk, 0 ≤ p.2 ∧ p.2 < (d : Int)) → (movedBy d w tk).Nodup := by
  intro tk h g
  unfold movedBy
  refine List.pairwise_map.mpr (List.Pairwise.imp_of_mem ?_ h)
  intro p q hp hq ne z
  obtain ⟨z1, z2⟩ := Prod.mk.inj z
  obtain ⟨a1, a2⟩ := g p hp
  obtain ⟨b1, b2⟩ := g q hq
  rw [show p.2 + (w : Int) + 1 = p.2 + ((w : Int) + 1) from by omega, show q.2 + (w : Int) + 1 = q.2 + ((w : Int) + 1) from by omega] at z2
  have := (modEq a1 a2).mp z2
  rw [Int.add_sub_cancel, Int.emod_eq_of_lt b1 b2] at this
  exact ne (Prod.ext z1 this)
theorem keep_step {work : List Int} {d at_ w : Nat} {tk : List Plc} {x : Int × List Plc} (h : KeepI work d at_ tk) (hat : at_ < work.length) (hd : 1 ≤ d) (e : nextOne work d at_ tk w = some x) :
    KeepI work d (at_ + 1) x.2 ∧ ∀ p ∈ x.2, p.1 ∈ work.drop (at_ + 1) ∧ p.1 ≠ -1 := by
  have d0 : (0 : Int) < (d : Int) := by omega
  unfold nextOne at e
  split at e
  · exact nomatch e
  rename_i hin
  cases e
  dsimp only
  have nd1 : (movedBy d w tk ++ [((work.getD at_ 0, 0) : Plc)]).Nodup := by
    rw [List.nodup_append]
    refine ⟨moved_nodup hd h.nd h.rng, List.nodup_cons.mpr ⟨List.not_mem_nil, List.nodup_nil⟩, fun a ha b hb z => ?_⟩
    rw [List.mem_singleton.mp hb] at z
    exact hin (z ▸ ha)
  refine ⟨⟨?_, fun p hp => ?_, fun s => ?_⟩, fun p hp => (needed_mem.mp hp).2⟩
  · unfold needed
    exact (sortP_perm _).nodup_iff.mpr (nd1.filter _)
  · rcases List.mem_append.mp (needed_mem.mp hp).1 with hp | hp
    · obtain ⟨a, ha, e⟩ := moved_mem.mp (show (p.1, p.2) ∈ movedBy d w tk from hp)
      rw [← e]
      exact ⟨Int.emod_nonneg _ (by omega), Int.emod_lt_of_pos _ d0⟩
    · rw [List.mem_singleton.mp hp]; exact ⟨Int.le_refl _, d0⟩
  · unfold needed
    rw [((sortP_perm _).filter _).length_eq, take_at hat, List.count_append]
    have c1 := (List.Sublist.filter (fun p : Plc => decide (p.1 = s)) (List.filter_sublist (p := fun p : Plc => decide (p.1 ∈ work.drop (at_ + 1)) && decide (p.1 ≠ -1)) (l := movedBy d w tk ++ [((work.getD at_ 0, 0) : Plc)]))).length_le
    refine Nat.le_trans c1 ?_
    rw [List.filter_append, List.length_append, moved_filter, filt_one]
    have := h.cnt s
    omega
theorem keep_go {work : List Int} {d : Nat} (hd : 1 ≤ d) : ∀ (v : List Nat) (at_ : Nat) (tk t : List Plc), KeepI work d at_ tk → at_ + v.length ≤ work.length → goW work d at_ tk v = some t →
    KeepI work d (at_ + v.length) t ∧ (v ≠ [] → ∀ p ∈ t, p.1 ∈ work.drop (at_ + v.length) ∧ p.1 ≠ -1)
  | [], _, _, _, h, _, e => by cases e; exact ⟨h, fun z => absurd rfl z⟩
  | w :: v, at_, tk, t, h, hl, e => by
    rw [List.length_cons] at hl
    have e : (match nextOne work d at_ tk w with
      | none => none
      | some x => goW work d (at_ + 1) x.2 v) = some t := e
    cases e1 : nextOne work d at_ tk w with
    | none => rw [e1] at e; exact nomatch e
    | some x =>
      rw [e1] at e
      have e : goW work d (at_ + 1) x.2 v = some t := e
      obtain ⟨k1, k2⟩ := keep_step h (by omega) hd e1
      obtain ⟨i1, i2⟩ := keep_go hd v (at_ + 1) x.2 t k1 (by omega) e
      rw [List.length_cons, show at_ + (v.length + 1) = at_ + 1 + v.length from by omega]
      refine ⟨i1, fun _ => ?_⟩
      cases v with
      | nil => cases e; exact k2
      | cons a r => exact i2 (fun z => nomatch z)
theorem goW_sorted {work : List Int} {d : Nat} : ∀ (v : List Nat) (at_ : Nat) (tk t : List Plc), sortP tk = tk → goW work d at_ tk v = some t → sortP t = t
  | [], _, _, _, h, e => by cases e; exact h
  | w :: v, at_, tk, t, h, e => by
    have e : (match nextOne work d at_ tk w with
      | none => none
      | some x => goW work d (at_ + 1) x.2 v) = some t := e
    cases e1 : nextOne work d at_ tk w with
    | none => rw [e1] at e; exact nomatch e
    | some x =>
      rw [e1] at e
      refine goW_sorted v _ _ t ?_ e
      unfold nextOne at e1
      split at e1
      · exact nomatch e1
      · cases e1
        exact sortP_eq (sortP_perm _)
/-- up to so many -/
def subsL (n : Nat) (l : List Nat) : List (List Nat) := (List.range (n + 1)).flatMap fun i => subsE i l
def bnL (m n : Nat) : Nat := ((List.range (n + 1)).map fun i => bn m i).sum
theorem subsL_len (n : Nat) (l : List Nat) : (subsL n l).length = bnL l.length n := by
  unfold subsL bnL
  rw [List.length_flatMap]
  congr 1
  exact List.map_congr_left fun i _ => subsE_len i l
theorem subsL_mem {n : Nat} {l A : List Nat} (h : A.Sublist l) (hn : A.length ≤ n) : A ∈ subsL n l :=
  List.mem_flatMap.mpr ⟨A.length, List.mem_range.mpr (by omega), subsE_mem h⟩
/-- all keys, by the sets of places -/
def keysS (work : List Int) (d : Nat) : List SKey := (0, T0 work) :: (List.range (work.length - 1)).flatMap fun l =>
  (plU (fun s => subsL ((work.take (l + 1)).count s) (List.range d)) (nubS (work.drop (l + 1)))).map fun B => (l, sortP B)
theorem keysS_mem {work : List Int} {d : Nat} (hd : 1 ≤ d) {v : List Nat} {tk : List Plc} (hl : v.length + 1 < work.length) (e : goW work d 1 (T0 work) v = some tk) : (v.length, tk) ∈ keysS work d := by
  by_cases h0 : v = []
  · subst h0
    cases e
    exact List.mem_cons_self
  · refine List.mem_cons_of_mem _ (List.mem_flatMap.mpr ⟨v.length, List.mem_range.mpr (by omega), List.mem_map.mpr ⟨spread d tk (nubS (work.drop (v.length + 1))), spread_plU fun s hs => ?_, ?_⟩⟩)
    all_goals
      obtain ⟨k1, k2⟩ := keep_go hd v 1 _ tk (keep_first (by omega) hd) (by omega) e
      rw [show 1 + v.length = v.length + 1 from by omega] at k1 k2
    · refine subsL_mem List.filter_sublist ?_
      rw [agos_len k1.nd k1.rng]
      exact k1.cnt s
    · have p := spread_perm (d := d) (nubS_nodup (work.drop (v.length + 1))) k1.nd fun p hp => ⟨nubS_mem.mpr (k2 h0 p hp), k1.rng p hp⟩
      rw [sortP_eq p, goW_sorted v 1 _ tk rfl e]
theorem keysS_len {work : List Int} {d c : Nat} (hc : ∃ N : List Int, N.length ≤ c ∧ ∀ x ∈ work, x = -1 ∨ x ∈ N) :
    (keysS work d).length ≤ 1 + ((List.range (work.length - 1)).map fun l => mxP (bnL d) (min c (work.length - 1 - l)) (l + 1)).sum := by
  obtain ⟨N, hN, hm⟩ := hc
  unfold keysS
  rw [List.length_cons, List.length_flatMap, Nat.add_comm]
  refine Nat.add_le_add_left ?_ 1
  have mono : ∀ {f g : Nat → Nat} {L : List Nat}, (∀ l ∈ L, f l ≤ g l) → (L.map f).sum ≤ (L.map g).sum := by
    intro f g L
    induction L with
    | nil => intro _; exact Nat.le_refl _
    | cons a L ih =>
      intro h
      rw [List.map_cons, List.map_cons, List.sum_cons, List.sum_cons]
      have h1 := h a List.mem_cons_self
      have h2 := ih fun l hl => h l (List.mem_cons_of_mem _ hl)
      omega
  refine mono fun l hl => ?_
  have hl := List.mem_range.mp hl
  rw [List.length_map, plU_len]
  have ef : (fun s : Int => (subsL ((work.take (l + 1)).count s) (List.range d)).length) = fun s => bnL d ((work.take (l + 1)).count s) := by
    funext s
    rw [subsL_len, List.length_range]
  rw [ef]
  have one : 1 ≤ bnL d 0 := by
    show 1 ≤ bn d 0 + 0
    cases d <;> exact Nat.le_refl _
  refine prodL_mx one (g := fun s => (work.take (l + 1)).count s) ?_ ?_
  · have h1 := nubS_len (work.drop (l + 1))
    rw [List.length_drop] at h1
    have h2 := nodup_len_le (nubS (work.drop (l + 1))) N (nubS_nodup _) fun x hx => by
      obtain ⟨g1, g2⟩ := nubS_mem.mp hx
      rcases hm x (List.drop_subset _ _ g1) with z | z
      · exact absurd z g2
      · exact z
    omega
  · have := sum_count (nubS_nodup (work.drop (l + 1))) (work.take (l + 1))
    rw [List.length_take] at this
    omega
theorem keysS_few8 : ∀ m : Fin 9, ∀ d : Fin 13, (1 + ((List.range (m.1 - 1)).map fun l => mxP (bnL d.1) (min 3 (m.1 - 1 - l)) (l + 1)).sum) * d.1 ≤ 16000000 := by decide +kernel
end Sg
set_option Elab.async false
set_option linter.all false
set_option maxRecDepth 100000
set_option maxHeartbeats 4000000
set_option Elab.async false
set_option linter.all false
set_option maxRecDepth 100000
set_option maxHeartbeats 4000000
namespace Sg
/-! ## the search tells the least waits, with any bound on its keys -/
section
variable (work : List Int) (d : Nat)
structure SrchU (U : List SKey) (o : Option (List Nat)) (q : List It) (seen : List SKey) : Prop where
  heap : HeapP itLt q
  items : ∀ it ∈ q, ∃ v tk, Item work d it v tk
  keys : ∀ k ∈ seen, k ∈ U
  nd : seen.Nodup
  way : ∀ ws, o = some ws → Way work d ws q seen
theorem run_okU {U : List SKey} (hU : ∀ it v tk, Item work d it v tk → v.length + 1 ≠ work.length → (v.length, tk) ∈ U) {o : Option (List Nat)} (ho : ∀ ws, o = some ws → Best work d ws) (hn : o = none → ∀ v, ¬ Fz work d v) : ∀ (n e : Nat) (q : List It) (seen : List SKey), SrchU work d U o q seen →
    U.length ≤ e + seen.length → (U.length - seen.length) * (d + 1) + q.length + 1 ≤ n → runE work d n e q seen = some (o.map wI)
  | 0, _, _, _, _, _, h => absurd h (by omega)
  | n + 1, e, q, seen, S, he, hf => by
    unfold runE
    cases hq : q[0]? with
    | none =>
      have q0 : q = [] := by
        cases q with
        | nil => rfl
        | cons a r => exact nomatch hq
      cases o with
      | none => rfl
      | some ws =>
        obtain ⟨p, r, _, ⟨it, tk, hi, _⟩, _⟩ := (S.way ws rfl).way
        rw [q0] at hi
        exact nomatch hi
    | some it =>
      obtain ⟨v, tk, I⟩ := S.items it (List.mem_of_getElem? hq)
      have hl : it.2.1.length = v.length := by rw [I.eq]; exact wI_len v
      have htk : it.2.2 = tk := by rw [I.eq]
      have hmin : ∀ z ∈ q, itLt z it = false := fun z hz => by
        obtain ⟨i, hi⟩ := List.mem_iff_getElem?.mp hz
        exact heap_front itLt_strict S.heap hq i z hi
      have hW : itW it = Wt v := by rw [I.eq]; rfl
      show (if it.2.1.length + 1 = work.length then some (some it.2.1) else if (it.2.1.length, it.2.2) ∈ seen then runE work d n e (restH itLt q) seen else if e = 0 then none
        else runE work d n (e - 1) (pushAll (restH itLt q) it (nextTaken work d (it.2.1.length + 1) it.2.2)) ((it.2.1.length, it.2.2) :: seen)) = _
      rw [hl, htk]
      have rp : List.Perm (it :: restH itLt q) q := rest_perm hq
      have rl : (restH itLt q).length + 1 = q.length := rp.length_eq
      by_cases hfull : v.length + 1 = work.length
      · rw [if_pos hfull]
        have fv : Fz work d v := ⟨hfull, I.lt, by rw [I.go]; rfl⟩
        cases o with
        | none => exact absurd fv (hn rfl v)
        | some ws =>
          have B := ho ws rfl
          obtain ⟨p, r, hpr, ⟨ip, tp, hip, Ip⟩, _⟩ := (S.way ws rfl).way
          have h1 := itLt_le (hmin ip hip)
          rw [hW, show itW ip = Wt p from by rw [Ip.eq]; rfl] at h1
          have h2 := wLt_pre p r
          rw [hpr] at h2
          have h3 := wLt_neg h2 h1
          have h4 := B.least v fv
          have := Wt_inj (wLt_eq h4 h3)
          subst this
          rw [I.eq]; rfl
      rw [if_neg hfull]
      by_cases hin : (v.length, tk) ∈ seen
      · rw [if_pos hin]
        refine run_okU hU ho hn n e _ seen ⟨rest_heap itLt_strict S.heap, fun z hz => S.items z (rp.mem_iff.mp (List.mem_cons_of_mem _ hz)), S.keys, S.nd, fun ws eo => ?_⟩ he (by omega)
        obtain ⟨p, r, hpr, ⟨ip, tp, hip, Ip⟩, hs⟩ := (S.way ws eo).way
        refine ⟨p, r, hpr, ⟨ip, tp, ?_, Ip⟩, hs⟩
        rcases List.mem_cons.mp (rp.mem_iff.mpr hip) with z | z
        · subst z
          obtain ⟨e1, e2⟩ := item_uniq work d I Ip
          subst e1 e2
          exact absurd hin (hs v r tk hpr (Nat.le_refl _) I.go)
        · exact z
      rw [if_neg hin]
      have kU := hU _ _ _ I hfull
      have nd2 : ((v.length, tk) :: seen).Nodup := List.nodup_cons.mpr ⟨hin, S.nd⟩
      have lU : ((v.length, tk) :: seen).length ≤ U.length := nodup_len_le _ _ nd2 fun k hk => by
        rcases List.mem_cons.mp hk with rfl | hk
        · exact kU
        · exact S.keys k hk
      have lU : seen.length + 1 ≤ U.length := lU
      obtain ⟨e, rfl⟩ : ∃ e', e = e' + 1 := ⟨e - 1, by omega⟩
      rw [if_neg (Nat.succ_ne_zero e), Nat.add_sub_cancel]
      · skip
        have lp := pushAll_len it (nextTaken work d (v.length + 1) tk) (restH itLt q)
        have ln := nextTaken_len work d (v.length + 1) tk
        have mul : (U.length - seen.length) * (d + 1) = (U.length - (seen.length + 1)) * (d + 1) + (d + 1) := by
          rw [← Nat.succ_mul]; congr 1; omega
        refine run_okU hU ho hn n e _ _ ⟨push_heapA it _ _ (rest_heap itLt_strict S.heap), fun z hz => ?_, fun k hk => ?_, nd2, fun ws eo => ?_⟩ (by rw [List.length_cons]; omega) (by rw [List.length_cons]; omega)
        · rcases (push_mem it _ _ _).mp hz with hz | ⟨x, hx, rfl⟩
          · exact S.items z (rp.mem_iff.mp (List.mem_cons_of_mem _ hz))
          · obtain ⟨w, hw, hx⟩ := (next_mem work d).mp hx
            exact ⟨_, _, item_next work d I hfull hw hx⟩
        · rcases List.mem_cons.mp hk with rfl | hk
          · exact kU
          · exact S.keys k hk
        · have B := ho ws eo
          obtain ⟨p, r, hpr, ⟨ip, tp, hip, Ip⟩, hs⟩ := (S.way ws eo).way
          by_cases hv : it = ip
          · subst hv
            obtain ⟨e1, e2⟩ := item_uniq work d I Ip
            subst e1 e2
            have lws := B.fz.len
            rcases r with _ | ⟨w, r'⟩
            · rw [List.append_nil] at hpr
              rw [← hpr] at lws
              exact absurd lws hfull
            have hgo := B.fz.go
            rw [← hpr, goW_app, I.go] at hgo
            have hgo : (goW work d (1 + v.length) tk (w :: r')).isSome = true := hgo
            rw [show 1 + v.length = v.length + 1 from by omega] at hgo
            have hgo : (match nextOne work d (v.length + 1) tk w with
              | none => none
              | some x => goW work d (v.length + 1 + 1) x.2 r').isSome = true := hgo
            cases hx : nextOne work d (v.length + 1) tk w with
            | none => rw [hx] at hgo; exact nomatch hgo
            | some x =>
              have hw : w < d := B.fz.lt w (by rw [← hpr]; exact List.mem_append_right _ List.mem_cons_self)
              refine ⟨v ++ [w], r', by rw [List.append_assoc]; exact hpr, ⟨longer it x, x.2, (push_mem it _ _ _).mpr (.inr ⟨x, (next_mem work d).mpr ⟨w, hw, hx⟩, rfl⟩), item_next work d I hfull hw hx⟩, fun s t ts hst hle hg hmem => ?_⟩
              rw [List.length_append] at hle
              have hle : v.length + 1 ≤ s.length := hle
              rcases List.mem_cons.mp hmem with z | z
              · have := congrArg Prod.fst z
                dsimp only at this
                omega
              · exact hs s t ts hst (by omega) hg z
          · have hrest : ip ∈ restH itLt q := by
              rcases List.mem_cons.mp (rp.mem_iff.mpr hip) with z | z
              · exact absurd z.symm hv
              · exact z
            refine ⟨p, r, hpr, ⟨ip, tp, (push_mem it _ _ _).mpr (.inl hrest), Ip⟩, fun s t ts hst hle hg hmem => ?_⟩
            rcases List.mem_cons.mp hmem with z | z
            · have z1 : s.length = v.length := congrArg Prod.fst z
              have z2 : ts = tk := congrArg Prod.snd z
              subst z2
              -- v goes on as s does
              have fvt : Fz work d (v ++ t) := by
                have l1 := B.fz.len
                rw [← hst, List.length_append] at l1
                refine ⟨by rw [List.length_append]; omega, fun y hy => ?_, ?_⟩
                · rcases List.mem_append.mp hy with hy | hy
                  · exact I.lt y hy
                  · exact B.fz.lt y (by rw [← hst]; exact List.mem_append_right _ hy)
                · have g := B.fz.go
                  rw [← hst, goW_app, hg] at g
                  rw [goW_app, I.go]
                  rw [z1] at g
                  exact g
              have b1 := B.least _ fvt
              rw [← hst] at b1
              have b2 : wLt (Wt v) (Wt s) = false := by
                cases b : wLt (Wt v) (Wt s) with
                | false => rfl
                | true => rw [wLt_cancel z1.symm b] at b1; exact nomatch b1
              -- p is a part of s
              have hps : ∃ m, p ++ m = s := by
                have e1 : p = ws.take p.length := by rw [← hpr, List.take_left]
                have e2 : s = ws.take s.length := by rw [← hst, List.take_left]
                refine ⟨(ws.take s.length).drop p.length, ?_⟩
                have e3 : p = (ws.take s.length).take p.length := by rw [List.take_take, Nat.min_eq_left hle]; exact e1
                calc p ++ (ws.take s.length).drop p.length = (ws.take s.length).take p.length ++ (ws.take s.length).drop p.length := by rw [← e3]
                  _ = ws.take s.length := List.take_append_drop _ _
                  _ = s := e2.symm
              obtain ⟨m, hm⟩ := hps
              have b3 := wLt_pre p m
              rw [hm] at b3
              have b4 := itLt_le (hmin ip hip)
              rw [hW, show itW ip = Wt p from by rw [Ip.eq]; rfl] at b4
              have b5 := wLt_neg b2 b3
              have := Wt_inj (wLt_eq b5 b4)
              subst this
              have e5 : tp = ts := Option.some.inj (Ip.go.symm.trans I.go)
              subst e5
              exact hv (I.eq.trans Ip.eq.symm)
            · exact hs s t ts hst hle hg z
end
theorem keysS_item {work : List Int} {d : Nat} (hd : 1 ≤ d) : ∀ it v tk, Item work d it v tk → v.length + 1 ≠ work.length → (v.length, tk) ∈ keysS work d := fun it v tk I n =>
  keysS_mem hd (by have := I.len; omega) I.go
theorem least_runS {work : List Int} {d : Nat} {o : Option (List Nat)} (h1 : 1 ≤ work.length) (hd : 1 ≤ d) (ho : ∀ ws, o = some ws → Best work d ws) (hn : o = none → ∀ v, ¬ Fz work d v) :
    runE work d ((keysS work d).length * (d + 1) + 2) (keysS work d).length (firstQ work) [] = some (o.map wI) := by
  have I : Item work d ((0, [], [(work.getD 0 0, 0)]) : It) [] (T0 work) := ⟨rfl, rfl, (fun w hw => nomatch hw), by show 0 + 1 ≤ _; omega⟩
  refine run_okU work d (keysS_item hd) ho hn _ _ _ _ ⟨heap_one _, fun it hit => ?_, (fun k hk => nomatch hk), List.nodup_nil, fun ws e => ?_⟩ (by show _ ≤ _ + 0; omega) (by show ((keysS work d).length - 0) * (d + 1) + 1 + 1 ≤ _; rw [Nat.sub_zero]; exact Nat.le_refl _)
  · rw [List.mem_singleton.mp hit]; exact ⟨_, _, I⟩
  · exact ⟨[], ws, rfl, ⟨_, _, List.mem_singleton.mpr rfl, I⟩, fun s t tk _ _ _ hm => nomatch hm⟩
theorem keysS_eight {work : List Int} {d : Nat} (h1 : 1 ≤ work.length) (h : work.length ≤ 8) (hd : d ≤ 12) (hN : ∃ N : List Int, N.length ≤ 3 ∧ ∀ x ∈ work, x = -1 ∨ x ∈ N) : (keysS work d).length * d ≤ 16000000 :=
  Nat.le_trans (Nat.mul_le_mul_right d (keysS_len hN)) (keysS_few8 ⟨work.length, by omega⟩ ⟨d, by omega⟩)
end Sg
set_option Elab.async false
set_option linter.all false
set_option maxRecDepth 100000
set_option maxHeartbeats 4000000
namespace Sg
open PySem PySem.Spec PyProof.Rows L2
/-! the places of the text -/
def topS (i : Nat) : Stmt := PySem.Challenge.pw_startgaps_k47_whole_waits_make_a_distanc.main.body.getD i (.Pass ⟨0, 0, 0, 0⟩)
abbrev s_is_int : Stmt := topS 15
theorem sc_is_int : FnScope ["thing"] ["thing"] (defScope s_is_int) := ⟨rfl, rfl, rfl, by decide +kernel, rfl, by decide +kernel, by decide +kernel⟩
abbrev s_is_between : Stmt := topS 16
theorem sc_is_between : FnScope ["thing", "least", "most"] ["thing", "least", "most"] (defScope s_is_between) := ⟨rfl, rfl, rfl, by decide +kernel, rfl, by decide +kernel, by decide +kernel⟩
abbrev s_is_work : Stmt := topS 21
theorem sc_is_work : FnScope ["thing", "item"] ["thing"] (defScope s_is_work) := ⟨rfl, rfl, rfl, by decide +kernel, rfl, by decide +kernel, by decide +kernel⟩
abbrev s_bars : Stmt := topS 22
theorem sc_bars : FnScope ["one", "other", "distance"] ["one", "other"] (defScope s_bars) := ⟨rfl, rfl, rfl, by decide +kernel, rfl, by decide +kernel, by decide +kernel⟩
abbrev s_most_visits : Stmt := topS 23
theorem sc_most_visits : FnScope ["work", "station"] ["work"] (defScope s_most_visits) := ⟨rfl, rfl, rfl, by decide +kernel, rfl, by decide +kernel, by decide +kernel⟩
abbrev s_require_work : Stmt := topS 24
theorem sc_require_work : FnScope ["thing"] ["thing"] (defScope s_require_work) := ⟨rfl, rfl, rfl, by decide +kernel, rfl, by decide +kernel, by decide +kernel⟩
abbrev s_clashes_behind : Stmt := topS 25
theorem sc_clashes_behind : FnScope ["one", "other", "distance", "here", "there"] ["one", "other", "distance"] (defScope s_clashes_behind) := ⟨rfl, rfl, rfl, by decide +kernel, rfl, by decide +kernel, by decide +kernel⟩
abbrev s_is_kind : Stmt := topS 28
theorem sc_is_kind : FnScope ["line", "thing"] ["line", "thing"] (defScope s_is_kind) := ⟨rfl, rfl, rfl, by decide +kernel, rfl, by decide +kernel, by decide +kernel⟩
abbrev s_require_kind : Stmt := topS 29
theorem sc_require_kind : FnScope ["line", "thing"] ["line", "thing"] (defScope s_require_kind) := ⟨rfl, rfl, rfl, by decide +kernel, rfl, by decide +kernel, by decide +kernel⟩
abbrev s_bars_of_all : Stmt := topS 30
theorem sc_bars_of_all : FnScope ["works", "other", "one"] ["works"] (defScope s_bars_of_all) := ⟨rfl, rfl, rfl, by decide +kernel, rfl, by decide +kernel, by decide +kernel⟩
abbrev s_Line_init : Stmt := inClass (topS 31) 0
theorem sc_Line_init : FnScope ["self", "works", "work", "row", "pair", "bar"] ["self", "works"] (defScope s_Line_init) := ⟨rfl, rfl, rfl, by decide +kernel, rfl, by decide +kernel, by decide +kernel⟩
abbrev s_Line_works : Stmt := inClass (topS 31) 1
theorem sc_Line_works : FnScope ["self"] ["self"] (defScope s_Line_works) := ⟨rfl, rfl, rfl, by decide +kernel, rfl, by decide +kernel, by decide +kernel⟩
abbrev s_Line_len : Stmt := inClass (topS 31) 3
theorem sc_Line_len : FnScope ["self"] ["self"] (defScope s_Line_len) := ⟨rfl, rfl, rfl, by decide +kernel, rfl, by decide +kernel, by decide +kernel⟩
abbrev s_Line_getitem : Stmt := inClass (topS 31) 4
theorem sc_Line_getitem : FnScope ["self", "at"] ["self", "at"] (defScope s_Line_getitem) := ⟨rfl, rfl, rfl, by decide +kernel, rfl, by decide +kernel, by decide +kernel⟩
abbrev s_Line_call : Stmt := inClass (topS 31) 6
theorem sc_Line_call : FnScope ["self", "one", "other"] ["self", "one", "other"] (defScope s_Line_call) := ⟨rfl, rfl, rfl, by decide +kernel, rfl, by decide +kernel, by decide +kernel⟩
abbrev s_Line_add : Stmt := inClass (topS 31) 7
theorem sc_Line_add : FnScope ["self", "other", "works"] ["self", "other"] (defScope s_Line_add) := ⟨rfl, rfl, rfl, by decide +kernel, rfl, by decide +kernel, by decide +kernel⟩
abbrev s_Line_sub : Stmt := inClass (topS 31) 9
theorem sc_Line_sub : FnScope ["self", "other", "works"] ["self", "other"] (defScope s_Line_sub) := ⟨rfl, rfl, rfl, by decide +kernel, rfl, by decide +kernel, by decide +kernel⟩
abbrev s_Line_neg : Stmt := inClass (topS 31) 10
theorem sc_Line_neg : FnScope ["self", "works", "work"] ["self"] (defScope s_Line_neg) := ⟨rfl, rfl, rfl, by decide +kernel, rfl, by decide +kernel, by decide +kernel⟩
abbrev s_Line_eq : Stmt := inClass (topS 31) 11
theorem sc_Line_eq : FnScope ["self", "other"] ["self", "other"] (defScope s_Line_eq) := ⟨rfl, rfl, rfl, by decide +kernel, rfl, by decide +kernel, by decide +kernel⟩
abbrev s_Line_repr : Stmt := inClass (topS 31) 12
theorem sc_Line_repr : FnScope ["self"] ["self"] (defScope s_Line_repr) := ⟨rfl, rfl, rfl, by decide +kernel, rfl, by decide +kernel, by decide +kernel⟩
abbrev s_require_line : Stmt := topS 32
theorem sc_require_line : FnScope ["thing"] ["thing"] (defScope s_require_line) := ⟨rfl, rfl, rfl, by decide +kernel, rfl, by decide +kernel, by decide +kernel⟩
abbrev s_is_plan : Stmt := topS 35
theorem sc_is_plan : FnScope ["line", "thing", "least", "pair"] ["line", "thing"] (defScope s_is_plan) := ⟨rfl, rfl, rfl, by decide +kernel, rfl, by decide +kernel, by decide +kernel⟩
abbrev s_clash : Stmt := topS 36
theorem sc_clash : FnScope ["line", "plan", "visits", "clashes", "place", "pieces"] ["line", "plan"] (defScope s_clash) := ⟨rfl, rfl, rfl, by decide +kernel, rfl, by decide +kernel, by decide +kernel⟩
abbrev s_require_plan : Stmt := topS 37
theorem sc_require_plan : FnScope ["line", "thing"] ["line", "thing"] (defScope s_require_plan) := ⟨rfl, rfl, rfl, by decide +kernel, rfl, by decide +kernel, by decide +kernel⟩
abbrev s_is_start : Stmt := topS 38
theorem sc_is_start : FnScope ["line", "thing", "least"] ["line", "thing", "least"] (defScope s_is_start) := ⟨rfl, rfl, rfl, by decide +kernel, rfl, by decide +kernel, by decide +kernel⟩
abbrev s_visits : Stmt := topS 39
theorem sc_visits : FnScope ["line", "plan", "visits", "piece", "start", "kind", "passed", "station"] ["line", "plan"] (defScope s_visits) := ⟨rfl, rfl, rfl, by decide +kernel, rfl, by decide +kernel, by decide +kernel⟩
abbrev s_fits : Stmt := topS 42
theorem sc_fits : FnScope ["line", "lap", "tick"] ["line", "lap"] (defScope s_fits) := ⟨rfl, rfl, rfl, by decide +kernel, rfl, by decide +kernel, by decide +kernel⟩
abbrev s_is_lap : Stmt := topS 43
theorem sc_is_lap : FnScope ["line", "thing", "item"] ["line", "thing"] (defScope s_is_lap) := ⟨rfl, rfl, rfl, by decide +kernel, rfl, by decide +kernel, by decide +kernel⟩
abbrev s_require_lap : Stmt := topS 44
theorem sc_require_lap : FnScope ["line", "thing"] ["line", "thing"] (defScope s_require_lap) := ⟨rfl, rfl, rfl, by decide +kernel, rfl, by decide +kernel, by decide +kernel⟩
abbrev s_clashes : Stmt := topS 45
theorem sc_clashes : FnScope ["line", "lap", "tick", "kind", "other", "bar"] ["line", "lap", "tick"] (defScope s_clashes) := ⟨rfl, rfl, rfl, by decide +kernel, rfl, by decide +kernel, by decide +kernel⟩
abbrev s_constants : Stmt := topS 47
theorem sc_constants : FnScope ["work", "distance"] ["work"] (defScope s_constants) := ⟨rfl, rfl, rfl, by decide +kernel, rfl, by decide +kernel, by decide +kernel⟩
abbrev s_is_constant : Stmt := topS 48
theorem sc_is_constant : FnScope ["items", "distance", "places", "tick", "station"] ["items", "distance"] (defScope s_is_constant) := ⟨rfl, rfl, rfl, by decide +kernel, rfl, by decide +kernel, by decide +kernel⟩
abbrev s_stretched : Stmt := topS 53
theorem sc_stretched : FnScope ["work", "waits"] ["work", "waits"] (defScope s_stretched) := ⟨rfl, rfl, rfl, by decide +kernel, rfl, by decide +kernel, by decide +kernel⟩
abbrev s_stretch : Stmt := topS 54
theorem sc_stretch : FnScope ["work", "distance"] ["work", "distance"] (defScope s_stretch) := ⟨rfl, rfl, rfl, by decide +kernel, rfl, by decide +kernel, by decide +kernel⟩
abbrev s_shows_stretch : Stmt := topS 55
theorem sc_shows_stretch : FnScope ["work", "distance", "thing"] ["work", "distance", "thing"] (defScope s_shows_stretch) := ⟨rfl, rfl, rfl, by decide +kernel, rfl, by decide +kernel, by decide +kernel⟩
abbrev s_trade : Stmt := topS 56
theorem sc_trade : FnScope ["work", "distances", "distance"] ["work"] (defScope s_trade) := ⟨rfl, rfl, rfl, by decide +kernel, rfl, by decide +kernel, by decide +kernel⟩
abbrev s_require_short : Stmt := topS 57
theorem sc_require_short : FnScope ["work"] ["work"] (defScope s_require_short) := ⟨rfl, rfl, rfl, by decide +kernel, rfl, by decide +kernel, by decide +kernel⟩
abbrev s_require_stretch : Stmt := topS 58
theorem sc_require_stretch : FnScope ["work", "distance"] ["work", "distance"] (defScope s_require_stretch) := ⟨rfl, rfl, rfl, by decide +kernel, rfl, by decide +kernel, by decide +kernel⟩
abbrev s_is_waits : Stmt := topS 59
theorem sc_is_waits : FnScope ["work", "thing", "wait"] ["work", "thing"] (defScope s_is_waits) := ⟨rfl, rfl, rfl, by decide +kernel, rfl, by decide +kernel, by decide +kernel⟩
abbrev s_put_in : Stmt := topS 60
theorem sc_put_in : FnScope ["work", "waits", "items", "wait", "station"] ["work", "waits"] (defScope s_put_in) := ⟨rfl, rfl, rfl, by decide +kernel, rfl, by decide +kernel, by decide +kernel⟩
abbrev s_least_waits : Stmt := topS 61
theorem sc_least_waits : FnScope ["work", "distance", "queue", "seen", "total", "waits", "taken", "wait", "longer"] ["work", "distance"] (defScope s_least_waits) := ⟨rfl, rfl, rfl, by decide +kernel, rfl, by decide +kernel, by decide +kernel⟩
abbrev s_next_taken : Stmt := topS 62
theorem sc_next_taken : FnScope ["work", "distance", "at", "taken", "station", "found", "wait", "moved", "other", "ago"] ["work", "distance", "at", "taken"] (defScope s_next_taken) := ⟨rfl, rfl, rfl, by decide +kernel, rfl, by decide +kernel, by decide +kernel⟩
abbrev s_needed_places : Stmt := topS 63
theorem sc_needed_places : FnScope ["coming", "places", "station", "ago"] ["coming", "places"] (defScope s_needed_places) := ⟨rfl, rfl, rfl, by decide +kernel, rfl, by decide +kernel, by decide +kernel⟩
abbrev s_l_cell : Stmt := topS 65
theorem sc_l_cell : FnScope ["_law_script", "_law_k"] ["_law_script", "_law_k"] (defScope s_l_cell) := ⟨rfl, rfl, rfl, by decide +kernel, rfl, by decide +kernel, by decide +kernel⟩
abbrev s_l_pen : Stmt := topS 66
theorem sc_l_pen : FnScope ["_law_cell_here"] ["_law_cell_here"] (defScope s_l_pen) := ⟨rfl, rfl, rfl, by decide +kernel, rfl, by decide +kernel, by decide +kernel⟩
abbrev s_l_draw : Stmt := topS 67
theorem sc_l_draw : FnScope ["_law_pen_here", "_law_many", "_law_found", "_law_stirred"] ["_law_pen_here", "_law_many"] (defScope s_l_draw) := ⟨rfl, rfl, rfl, by decide +kernel, rfl, by decide +kernel, by decide +kernel⟩
abbrev s_l_pick : Stmt := topS 68
theorem sc_l_pick : FnScope ["_law_pen_here", "_law_values"] ["_law_pen_here", "_law_values"] (defScope s_l_pick) := ⟨rfl, rfl, rfl, by decide +kernel, rfl, by decide +kernel, by decide +kernel⟩
abbrev s_l_mixed : Stmt := topS 69
theorem sc_l_mixed : FnScope ["_law_pen_here", "_law_values", "_law_left", "_law_found", "_law_turn"] ["_law_pen_here", "_law_values"] (defScope s_l_mixed) := ⟨rfl, rfl, rfl, by decide +kernel, rfl, by decide +kernel, by decide +kernel⟩
abbrev s_l_work : Stmt := topS 70
theorem sc_l_work : FnScope ["_law_pen_here", "_law_long", "_law_many", "_law_names", "_law_found", "_law_rare", "_law_turn"] ["_law_pen_here", "_law_long", "_law_many"] (defScope s_l_work) := ⟨rfl, rfl, rfl, by decide +kernel, rfl, by decide +kernel, by decide +kernel⟩
abbrev s_l_right : Stmt := topS 71
theorem sc_l_right : FnScope ["_law_items", "_law_distance", "_law_waits", "_law_longer", "_law_one", "_law_bar", "_law_line", "_law_plan", "_law_piece"] ["_law_items", "_law_distance"] (defScope s_l_right) := ⟨rfl, rfl, rfl, by decide +kernel, rfl, by decide +kernel, by decide +kernel⟩
abbrev s_law : Stmt := topS 72
theorem sc_law : FnScope ["_law_script", "_law_k", "_law_pen_here", "_law_lap", "_law_items", "_law_distance", "_law_pairs", "_law_total"] ["_law_script"] (defScope s_law) := ⟨rfl, rfl, rfl, by decide +kernel, rfl, by decide +kernel, by decide +kernel⟩
end Sg
set_option Elab.async false
set_option linter.all false
set_option maxRecDepth 100000
set_option maxHeartbeats 4000000
namespace Sg
open PySem PySem.Spec PyProof.Rows L2 StX
section
variable {P : Program} {w : World} {K : PySem.W.Frag} {mg : Str → Option Value} {base : Heap}
def spIsInt : Sp := fun vs H Q _ => ∃ i : Int, vs = [.int i] ∧ Q (.bl true) H
theorem ok_is_int {f : Addr} {fd : FuncData} {k : Nat} (F : Fun K "is_int" "is_int" s_is_int f fd) (m1 : mg "isinstance" = none) (m2 : mg "int" = none) (m3 : mg "bool" = none) :
    FnOk P w K mg base CX0 (k + 1) f fd ["thing"] spIsInt := by
  refine F.ok sc_is_int (fun vs H Q E h => ?_) (fun cdv A outer s H vs Q E hr h => ?_)
  · obtain ⟨i, rfl, _⟩ := h; rfl
  · obtain ⟨i, rfl, q⟩ := h
    refine ⟨_, pss_one (ps_ret (pe_and
      (pe_callB call_isi (by rfl) m1 (by decide +kernel) (pa_cons (pv 0) (pa_cons (pe_bltn (v := .ty "int") (by rfl) m2 (by decide +kernel) rfl) pa_nil)))
      (pe_one (pe_not (pe_callB call_isi (by rfl) m1 (by decide +kernel) (pa_cons (pv 0) (pa_cons (pe_bltn (v := .ty "bool") (by rfl) m3 (by decide +kernel) rfl) pa_nil))))))), ?_⟩
    refine ⟨.int i, rfl, .int i, .ty "int", _, _, true, rfl, .ty _, .base (.int i), kit_ty (by decide +kernel), true, rfl, iteT ?_⟩
    exact ⟨.int i, rfl, .int i, .ty "bool", _, _, false, rfl, .ty _, .base (.int i), kit_ty (by decide +kernel), false, rfl, q⟩
def spIsBetween : Sp := fun vs H Q _ => ∃ i l m : Int, vs = [.int i, .int l, .int m] ∧ Q (.bl (decide (l ≤ i) && decide (i ≤ m))) H
theorem ok_is_between {f f1 : Addr} {fd fd1 : FuncData} {k : Nat} (F : Fun K "is_between" "is_between" s_is_between f fd)
    (G1 : FnOk P w K mg base CX0 k f1 fd1 ["thing"] spIsInt) (kp1 : PySem.W.keepIn K (.ref f1) = true) (b1 : Binds K fd1 ["thing"] []) (g1 : mg "is_int" = some (.ref f1)) :
    FnOk P w K mg base CX0 (k + 1) f fd ["thing", "least", "most"] spIsBetween := by
  refine F.ok sc_is_between (fun vs H Q E h => ?_) (fun cdv A outer s H vs Q E hr h => ?_)
  · obtain ⟨i, l, m, rfl, _⟩ := h; rfl
  · obtain ⟨i, l, m, rfl, q⟩ := h
    refine ⟨_, pss_one (ps_ret (pe_and (pe_call G1 hr (by rfl) g1 kp1 b1 .nil pass0 (pa_cons (pv 0) pa_nil)) (pe_one (pe_chain op_le op_le (pv 1) (pv 0) (pv 2))))), ?_⟩
    refine ⟨.int i, rfl, i, rfl, true, rfl, iteT ?_⟩
    refine ⟨.int l, rfl, .int i, rfl, l, i, rfl, rfl, decide (l ≤ i), rfl, ?_⟩
    by_cases h1 : l ≤ i
    · rw [decide_eq_true h1] at q ⊢
      exact iteT ⟨.int m, rfl, i, m, rfl, rfl, q⟩
    · rw [decide_eq_false h1] at q ⊢
      exact iteF q
/-! ### is_int, is_between: of any data -/
theorem isInt_eq (d : PyData) : (isB "int" d && !isB "bool" d) = isIntD d := by
  cases d <;> rfl
def spIsIntA (K : PySem.W.Frag) : Sp := fun vs H Q _ => ∃ v d, vs = [v] ∧ Aq K H v d ∧ Q (.bl (isIntD d)) H
theorem ok_is_intA {f : Addr} {fd : FuncData} {k : Nat} (F : Fun K "is_int" "is_int" s_is_int f fd) (m1 : mg "isinstance" = none) (m2 : mg "int" = none) (m3 : mg "bool" = none) :
    FnOk P w K mg base CX0 (k + 1) f fd ["thing"] (spIsIntA K) := by
  refine F.ok sc_is_int (fun vs H Q E h => ?_) (fun cdv A outer s H vs Q E hr h => ?_)
  · obtain ⟨v, d, rfl, _⟩ := h; rfl
  · obtain ⟨v, d, rfl, hd, q⟩ := h
    refine ⟨_, pss_one (ps_ret (pe_and
      (pe_callB call_isiA (by rfl) m1 (by decide +kernel) (pa_cons (pv 0) (pa_cons (pe_bltn (v := .ty "int") (by rfl) m2 (by decide +kernel) rfl) pa_nil)))
      (pe_one (pe_not (pe_callB call_isiA (by rfl) m1 (by decide +kernel) (pa_cons (pv 0) (pa_cons (pe_bltn (v := .ty "bool") (by rfl) m3 (by decide +kernel) rfl) pa_nil))))))), ?_⟩
    refine ⟨v, rfl, v, d, "int", rfl, hd, .inr (.inl rfl), isB "int" d, rfl, ?_⟩
    have e := isInt_eq d
    cases h1 : isB "int" d with
    | false => rw [h1] at e; rw [← e] at q; exact iteF q
    | true =>
      refine iteT ⟨v, rfl, v, d, "bool", rfl, hd, .inr (.inr (.inl rfl)), isB "bool" d, rfl, ?_⟩
      rw [h1, Bool.true_and] at e
      rw [← e] at q
      exact q
def spBetA (K : PySem.W.Frag) : Sp := fun vs H Q _ => ∃ v d, ∃ l m : Int, vs = [v, .int l, .int m] ∧ Aq K H v d ∧ Q (.bl (betD d l m)) H
theorem ok_is_betweenA {f f1 : Addr} {fd fd1 : FuncData} {k : Nat} (F : Fun K "is_between" "is_between" s_is_between f fd)
    (G1 : FnOk P w K mg base CX0 k f1 fd1 ["thing"] (spIsIntA K)) (kp1 : PySem.W.keepIn K (.ref f1) = true) (b1 : Binds K fd1 ["thing"] []) (g1 : mg "is_int" = some (.ref f1)) :
    FnOk P w K mg base CX0 (k + 1) f fd ["thing", "least", "most"] (spBetA K) := by
  refine F.ok sc_is_between (fun vs H Q E h => ?_) (fun cdv A outer s H vs Q E hr h => ?_)
  · obtain ⟨v, d, l, m, rfl, _⟩ := h; rfl
  · obtain ⟨v, d, l, m, rfl, hd, q⟩ := h
    refine ⟨_, pss_one (ps_ret (pe_and (pe_call G1 hr (by rfl) g1 kp1 b1 .nil pass0 (pa_cons (pv 0) pa_nil)) (pe_one (pe_chain op_le op_le (pv 1) (pv 0) (pv 2))))), ?_⟩
    refine ⟨v, rfl, v, d, rfl, hd, isIntD d, rfl, ?_⟩
    cases hi : isIntD d with
    | false =>
      have e : betD d l m = false := by cases d <;> first | rfl | exact nomatch hi
      rw [e] at q
      exact iteF q
    | true =>
      obtain ⟨i, rfl⟩ : ∃ i, d = .int i := by cases d <;> first | exact ⟨_, rfl⟩ | exact nomatch hi
      obtain rfl : v = .int i := by
        cases hd with
        | data hd => cases hd; rfl
      refine iteT ⟨.int l, rfl, .int i, rfl, l, i, rfl, rfl, decide (l ≤ i), rfl, ?_⟩
      have e : betD (.int i) l m = (decide (l ≤ i) && decide (i ≤ m)) := rfl
      rw [e] at q
      by_cases h1 : l ≤ i
      · rw [decide_eq_true h1] at q ⊢
        exact iteT ⟨.int m, rfl, i, m, rfl, rfl, q⟩
      · rw [decide_eq_false h1] at q ⊢
        exact iteF q
/-! ### the script's cells, the pen -/
def spCell (K : PySem.W.Frag) : Sp := fun vs H Q _ => ∃ (a : Addr) (ns : List Int) (k : Nat), vs = [.ref a, .int k] ∧ SqL K H a (ns.map V.int) ∧ ∀ r : Int, Q (.int r) H
theorem ok_l_cell {f : Addr} {fd : FuncData} {k : Nat} (F : Fun K "_law_cell" "_law_cell" s_l_cell f fd) (m1 : mg "len" = none) :
    FnOk P w K mg base CX0 (k + 1) f fd ["_law_script", "_law_k"] (spCell K) := by
  refine F.ok sc_l_cell (fun vs H Q E h => ?_) (fun cdv A outer s H vs Q E hr h => ?_)
  · obtain ⟨a, ns, j, rfl, _⟩ := h; rfl
  · obtain ⟨a, ns, j, rfl, hS, q⟩ := h
    refine ⟨_, pss_one (ps_ret (pe_ifExp (pt_cmpR op_lt (pv 1) (pe_callB call_len_seq (by rfl) m1 PySem.boot_len (pa_cons (pv 0) pa_nil)) (nomark _))
      (pe_ix ix_list (pv 0) (pv 1) (fun _ _ => rfl)) pe_int)), ?_⟩
    refine ⟨.int j, rfl, .ref a, rfl, a, ns.map V.int, rfl, .inl hS, _, _, rfl, rfl, _, rfl, ite2 (fun e => ?_) (fun e => ?_)⟩
    · have e1 : (j : Int) < ((ns.map V.int).length : Nat) := of_decide_eq_true e
      have e2 : j < ns.length := by rw [List.length_map] at e1; omega
      refine ⟨.ref a, rfl, .int j, rfl, a, ns.map V.int, (j : Int), .int ns[j], rfl, rfl, hS, atI_nat ?_, q _⟩
      rw [List.getElem?_map, List.getElem?_eq_getElem e2]; rfl
    · exact q 0
def spPen : Sp := fun vs H Q _ => ∃ c : Int, vs = [.int c] ∧ ∀ H' p, H p = none → Same H H' → PenAt H' p → Q (.ref p) H'
theorem ok_l_pen {f : Addr} {fd : FuncData} {k : Nat} (F : Fun K "_law_pen" "_law_pen" s_l_pen f fd) (m1 : mg "max" = none) :
    FnOk P w K mg base CX0 (k + 1) f fd ["_law_cell_here"] spPen := by
  refine F.ok sc_l_pen (fun vs H Q E h => ?_) (fun cdv A outer s H vs Q E hr h => ?_)
  · obtain ⟨c, rfl, _⟩ := h; rfl
  · obtain ⟨c, rfl, q⟩ := h
    refine ⟨_, pss_one (ps_ret (pe_lst (pa_cons (pe_callB (call_max2 rfl) (by rfl) m1 (by decide +kernel) (pa_cons pe_int (pa_cons (pe_op op_sub (pv 0) (pe_op op_pow pe_int pe_int)) pa_nil)))
      (pa_cons (pe_op op_add (pe_op op_mod (pv 0) pe_int) pe_int) (pa_cons pe_int pa_nil))))), ?_⟩
    refine ⟨.int c, rfl, 10, 18, rfl, rfl, (by show (0 : Int) ≤ 18 ∧ (18 : Int) ≤ 1000000 ∧ _; decide), c, _, rfl, rfl, _, _, rfl, ?_⟩
    refine ⟨.int c, rfl, c, 2147483629, rfl, rfl, (by show (0 : Int) < 2147483629; decide), _, _, rfl, rfl, ?_⟩
    refine ⟨by show 3 ≤ sizeLine; decide, fun p hp => q _ p hp (same_new hp) ⟨_, _, _, upd_same, ?_⟩⟩
    have h1 := Int.emod_nonneg c (show (2147483629 : Int) ≠ 0 by decide)
    have h2 := Int.emod_lt_of_pos c (show (0 : Int) < 2147483629 by decide)
    constructor <;> omega
/-! ### a draw -/
def spDraw : Sp := fun vs H Q _ => ∃ (p : Addr) (m : Int), vs = [.ref p, .int m] ∧ PenAt H p ∧ 0 < m ∧ m < 1000000 ∧
  ∀ H' (r : Int), 0 ≤ r → r < m → PenAt H' p → But p H H' → Q (.int r) H'
theorem ok_l_draw {f : Addr} {fd : FuncData} {k : Nat} (F : Fun K "_law_draw" "_law_draw" s_l_draw f fd) :
    FnOk P w K mg base CX0 (k + 1) f fd ["_law_pen_here", "_law_many"] spDraw := by
  refine F.ok sc_l_draw (fun vs H Q E h => ?_) (fun cdv A outer s H vs Q E hr h => ?_)
  · obtain ⟨p, m, rfl, _⟩ := h; rfl
  · obtain ⟨p, m, rfl, ⟨a, b, c, hp, hb0, hb1⟩, hm0, hm1, q⟩ := h
    refine ⟨_, pss_cons (ps_if (pt_cmpR op_gt (pe_ix ix_list (pv 0) pe_int (fun _ _ => rfl)) pe_int (nomark _))
        (pss_cons (ps_set (i := 2) sc_l_draw.nd rfl (.inl rfl) (pe_op op_mod (pe_ix ix_list (pv 0) pe_int (fun _ _ => rfl)) (pv 1)))
        (pss_cons (ps_asg (pe_op op_fdiv (pe_ix ix_list (pv 0) pe_int (fun _ _ => rfl)) (pv 1)) (pg_sub (pv 0) pe_int set_list))
        (pss_one (ps_ret (pv 2))))) pss_nil)
      (pss_cons (ps_asg (pe_op op_add (pe_ix ix_list (pv 0) pe_int (fun _ _ => rfl)) pe_int) (pg_sub (pv 0) pe_int set_list))
      (pss_cons (ps_asg (pe_op op_mod (pe_op op_add (pe_op op_add (pe_op op_mul (pe_ix ix_list (pv 0) pe_int (fun _ _ => rfl)) pe_int)
            (pe_op op_mul pe_int (pe_ix ix_list (pv 0) pe_int (fun _ _ => rfl)))) pe_int) pe_int) (pg_sub (pv 0) pe_int set_list))
      (pss_cons (ps_set (i := 3) sc_l_draw.nd rfl (.inl rfl) (pe_op op_mod (pe_op op_add (pe_op op_add (pe_op op_mul (pe_ix ix_list (pv 0) pe_int (fun _ _ => rfl)) (pe_ix ix_list (pv 0) pe_int (fun _ _ => rfl)))
            (pe_op op_mul pe_int (pe_ix ix_list (pv 0) pe_int (fun _ _ => rfl)))) pe_int) pe_int))
      (pss_cons (ps_set (i := 3) sc_l_draw.nd rfl (.inl rfl) (pe_op op_mod (pe_op op_add (pe_op op_mul (pv 3) (pv 3)) (pe_op op_mul pe_int (pv 3))) pe_int))
      (pss_one (ps_ret (pe_op op_mod (pe_op op_fdiv (pv 3) pe_int) (pv 1)))))))), ?_⟩
    refine ⟨.ref p, rfl, p, _, 0, .int a, rfl, rfl, .of hp, atI0, a, 0, rfl, rfl, _, rfl, ite2 (fun e => ?_) (fun e => ?_)⟩
    · have ha : 0 < a := of_decide_eq_true e
      refine ⟨.ref p, rfl, p, _, 0, .int a, rfl, rfl, .of hp, atI0, .int m, rfl, a, m, rfl, rfl, hm0, ?_⟩
      refine ⟨.ref p, rfl, p, _, 0, .int a, rfl, rfl, .of hp, atI0, .int m, rfl, a, m, rfl, rfl, ⟨hm0, (by omega)⟩, ?_⟩
      refine ⟨.ref p, rfl, p, _, 0, 0, rfl, rfl, hp, rfl, ?_⟩
      refine ⟨.int (a % m), rfl, q _ _ (Int.emod_nonneg a (by omega)) (Int.emod_lt_of_pos a hm0) ⟨a / m, b, c, upd_same, hb0, hb1⟩ But.upd⟩
    · refine ⟨.ref p, rfl, p, _, 2, .int c, rfl, rfl, .of hp, atI2, c, 1, rfl, rfl, ?_⟩
      refine ⟨.ref p, rfl, p, _, 2, 2, rfl, rfl, hp, rfl, ?_⟩
      have hp1 : (upd H p (.lst [.int a, .int b, .int (c + 1)])) p = some (.lst [.int a, .int b, .int (c + 1)]) := upd_same
      refine ⟨.ref p, rfl, p, _, 1, .int b, rfl, rfl, .of hp1, atI1, b, 48271, rfl, rfl, .inl ⟨by omega, by omega⟩, ?_⟩
      refine ⟨.ref p, rfl, p, _, 2, .int (c + 1), rfl, rfl, .of hp1, atI2, 1009, c + 1, rfl, rfl, .inl (by decide), ?_⟩
      refine ⟨_, _, rfl, rfl, _, _, rfl, rfl, _, 2147483647, rfl, rfl, (by show (0 : Int) < 2147483647; decide), ?_⟩
      refine ⟨.ref p, rfl, p, _, 1, 1, rfl, rfl, hp1, rfl, ?_⟩
      dsimp only [List.set]
      generalize hb' : (b * 48271 + 1009 * (c + 1) + 7) % 2147483647 = b'
      have g1 : 0 ≤ b' := by rw [← hb']; exact Int.emod_nonneg _ (by decide)
      have g2 : b' < 2147483647 := by rw [← hb']; exact Int.emod_lt_of_pos _ (by decide)
      have hp2 : (upd (upd H p (.lst [.int a, .int b, .int (c + 1)])) p (.lst [.int a, .int b', .int (c + 1)])) p = some (.lst [.int a, .int b', .int (c + 1)]) := upd_same
      refine ⟨.ref p, rfl, p, _, 1, .int b', rfl, rfl, .of hp2, atI1, .ref p, rfl, p, _, 1, .int b', rfl, rfl, .of hp2, atI1, b', b', rfl, rfl, .inl ⟨by omega, by omega⟩, ?_⟩
      refine ⟨.ref p, rfl, p, _, 1, .int b', rfl, rfl, .of hp2, atI1, 69621, b', rfl, rfl, .inl (by decide), ?_⟩
      refine ⟨_, _, rfl, rfl, _, _, rfl, rfl, _, 2147483629, rfl, rfl, (by show (0 : Int) < 2147483629; decide), ?_⟩
      dsimp only
      generalize ht : (b' * b' + 69621 * b' + 11) % 2147483629 = t
      have t1 : 0 ≤ t := by rw [← ht]; exact Int.emod_nonneg _ (by decide)
      have t2 : t < 2147483629 := by rw [← ht]; exact Int.emod_lt_of_pos _ (by decide)
      refine ⟨.int t, rfl, .int t, rfl, t, t, rfl, rfl, .inl ⟨by omega, by omega⟩, .int t, rfl, 40014, t, rfl, rfl, .inl (by decide), _, _, rfl, rfl, _, 2147483587, rfl, rfl, (by show (0 : Int) < 2147483587; decide), ?_⟩
      refine ⟨_, rfl, _, 16, rfl, rfl, ⟨by decide, by decide⟩, .int m, rfl, _, m, rfl, rfl, hm0, ?_⟩
      refine q _ _ (Int.emod_nonneg _ (by omega)) (Int.emod_lt_of_pos _ hm0) ⟨a, b', c + 1, upd_same, by omega, by omega⟩ ?_
      exact But.upd.trans But.upd
end
end Sg
set_option Elab.async false
set_option linter.all false
set_option maxRecDepth 100000
set_option maxHeartbeats 4000000
namespace Sg
open PySem PySem.Spec PyProof.Rows L2
section
variable {P : Program} {w : World} {K : PySem.W.Frag} {mg : Str → Option Value} {base : Heap}
/-! ### is_work, of a work -/
def spIsWork (K : PySem.W.Frag) : Sp := fun vs H Q _ => ∃ (a : Addr) (ns : List Int), vs = [.ref a] ∧ SqT K H a (ns.map V.int) ∧ IsWork ns ∧ ∀ H', Same H H' → Q (.bl true) H'
theorem ok_is_work {f f1 : Addr} {fd fd1 : FuncData} {k : Nat} (F : Fun K "is_work" "is_work" s_is_work f fd) (N : Nums mg)
    (G1 : FnOk P w K mg base CX0 k f1 fd1 ["thing", "least", "most"] spIsBetween) (kp1 : PySem.W.keepIn K (.ref f1) = true) (b1 : Binds K fd1 ["thing", "least", "most"] []) (g1 : mg "is_between" = some (.ref f1))
    (m1 : mg "isinstance" = none) (m2 : mg "tuple" = none) (m3 : mg "len" = none) (m4 : mg "all" = none) :
    FnOk P w K mg base CX0 (k + 1) f fd ["thing"] (spIsWork K) := by
  obtain ⟨t1, n1⟩ := N.nowhere
  obtain ⟨t2, n2⟩ := N.stations
  obtain ⟨t3, n3⟩ := N.most
  refine F.ok sc_is_work (fun vs H Q E h => ?_) (fun cdv A outer s H vs Q E hr h => ?_)
  · obtain ⟨a, ns, rfl, _⟩ := h; rfl
  · obtain ⟨a, ns, rfl, hS, hw, q⟩ := h
    refine ⟨_, pss_cons (ps_if (PW.pt (pw_or (pt_not (pt_val (pe_callB call_isi (by rfl) m1 (by decide +kernel) (pa_cons (pv 0) (pa_cons (pe_bltn (v := .ty "tuple") (by rfl) m2 (by decide +kernel) rfl) pa_nil)))))
          (pw_or1 (pt_not (pt_chain op_le op_le pe_int (pe_callB call_len_seq (by rfl) m3 PySem.boot_len (pa_cons (pv 0) pa_nil)) (pe_glob (v := .int 60) (by rfl) n3 ⟨_, rfl⟩))))))
        (pss_one (ps_ret pe_bl)) pss_nil)
      (pss_cons (ps_if (pt_not (pt_val (pe_callB (cr_all rfl) (by rfl) m4 (by decide +kernel) (pa_cons
          (pe_lc (own := [("item", 1)]) (g := gName 1) (tt := tYes) rfl sc_is_work.nd (pi_tup (pv 0)) (blkOk_by (N := ["thing", "item"]) (sc := defScope s_is_work) (by decide +kernel))
            (fun _ _ _ _ _ => pg_name (i := 1) sc_is_work.nd rfl (Or.inl rfl)) (fun _ _ _ _ _ => pts_nil)
            (fun _ _ _ _ _ => pe_call G1 hr (by rfl) g1 kp1 b1 .nil pass0 (pa_cons (pv 1) (pa_cons (pe_glob (v := .int (-1)) (by rfl) n1 ⟨_, rfl⟩) (pa_cons (pe_op op_sub (pe_glob (v := .int 10) (by rfl) n2 ⟨_, rfl⟩) pe_int) pa_nil))))) pa_nil))))
        (pss_one (ps_ret pe_bl)) pss_nil)
      (pss_one (ps_ret (pe_and (pe_cmpR op_ne (pe_ix ix_tup (pv 0) pe_int (fun _ _ => rfl)) (pe_glob (v := .int (-1)) (by rfl) n1 ⟨_, rfl⟩) (nomark _))
        (pe_one (pe_cmpR op_ne (pe_ix ix_tup (pv 0) (pe_un un_neg pe_int) (fun _ _ => rfl)) (pe_glob (v := .int (-1)) (by rfl) n1 ⟨_, rfl⟩) (nomark _))))))), ?_⟩
    have l1 : ((ns.map V.int).length : Int) = ns.length := by rw [List.length_map]
    refine ⟨.ref a, rfl, .ref a, .ty "tuple", _, _, true, rfl, .ty _, tyT hS, kit_ty (by decide +kernel), true, rfl, iteF ?_⟩
    refine ⟨.ref a, rfl, a, ns.map V.int, rfl, .inr hS, 1, _, rfl, rfl, _, rfl, ?_⟩
    have c1 : decide ((1 : Int) ≤ ((ns.map V.int).length : Nat)) = true := decide_eq_true (by rw [List.length_map]; have := hw.pos; omega)
    rw [c1]
    refine iteT ⟨_, 60, rfl, rfl, _, rfl, ?_⟩
    have c2 : decide ((((ns.map V.int).length : Nat) : Int) ≤ 60) = true := decide_eq_true (by rw [List.length_map]; have := hw.most; omega)
    rw [c2]
    refine iteF ?_
    refine ⟨.ref a, rfl, a, rfl, ⟨_, hS⟩, fun D hD => ?_⟩
    refine lc_tup (xs := ns.map V.int) (fun i H' => Same H H' ∧ H' D = some (.lst ((((ns.take i).map inR)).map V.bl))) ⟨same_new hD, upd_same⟩ (fun i H' _ h => Same.tup h.1 hS) (fun i x H' hx h => ?_) (fun H' h => ?_)
    · rw [List.getElem?_map] at hx
      obtain ⟨z, hz, rfl⟩ := Option.map_eq_some_iff.mp hx
      have hl : i < ns.length := (List.getElem?_eq_some_iff.mp hz).1
      refine ⟨rfl, .int z, rfl, 10, 1, rfl, rfl, z, -1, _, rfl, ?_⟩
      refine ⟨_, h.2, ?_, fun b o e => ?_, ?_⟩
      · rw [List.length_map, List.length_map, List.length_take]
        have := hw.most
        exact small1000 (by omega)
      · rw [upd_ne (ne_of_none e hD)]
        exact h.1 _ _ e
      · rw [upd_same, List.take_add_one, hz, List.map_append, List.map_append]
        rfl
    · have hall : (((ns.take ns.length).map inR)).all id = true := by
        rw [List.take_length, List.all_map, List.all_eq_true]
        intro x hx
        have := hw.items x hx
        simp [inR, this.1, this.2]
      have h2 := h.2
      rw [List.length_map] at h2
      refine ⟨D, _, rfl, .of h2, true, congrArg V.bl hall, iteF ?_⟩
      have hS' : SqT K H' a (ns.map V.int) := Same.tup h.1 hS
      obtain ⟨x, hx⟩ : ∃ x, ns[0]? = some x := ⟨ns[0]'(hw.pos), List.getElem?_eq_getElem _⟩
      have hpos := hw.pos
      obtain ⟨y, hy⟩ : ∃ y, ns[ns.length - 1]? = some y := ⟨ns[ns.length - 1]'(by omega), List.getElem?_eq_getElem _⟩
      have gx : (ns.map V.int)[0]? = some (.int x) := by rw [List.getElem?_map, hx]; rfl
      have gy : atI (ns.map V.int) (-1) = some (.int y) := by
        have hne : ns ≠ [] := fun z => by rw [z] at hpos; exact absurd hpos (by decide)
        have e1 : ns = ns.dropLast ++ [y] := by
          have e2 : ns.getLast hne = y := by
            have := List.getLast_eq_getElem hne
            rw [this]
            exact (List.getElem?_eq_some_iff.mp hy).2
          rw [← e2, List.dropLast_concat_getLast]
        rw [e1, List.map_append]
        exact atI_last _ _
      refine ⟨.ref a, rfl, a, _, 0, .int x, rfl, rfl, hS', atI_nat (j := 0) gx, rfl, ?_⟩
      have d1 : decide (V.int x = V.int (-1)) = false := decide_eq_false fun z => hw.head x hx (V.int.inj z)
      rw [d1]
      refine ⟨true, rfl, iteT ?_⟩
      refine ⟨.ref a, rfl, 1, rfl, a, _, -1, .int y, rfl, rfl, hS', gy, rfl, ?_⟩
      have d2 : decide (V.int y = V.int (-1)) = false := decide_eq_false fun z => hw.last y hy (V.int.inj z)
      rw [d2]
      exact q H' h.1
def spReq (K : PySem.W.Frag) : Sp := fun vs H Q _ => ∃ (a : Addr) (ns : List Int), vs = [.ref a] ∧ SqT K H a (ns.map V.int) ∧ IsWork ns ∧ ∀ H', Same H H' → Q .non H'
theorem ok_require_work {f f1 : Addr} {fd fd1 : FuncData} {k : Nat} (F : Fun K "require_work" "require_work" s_require_work f fd)
    (G1 : FnOk P w K mg base CX0 k f1 fd1 ["thing"] (spIsWork K)) (kp1 : PySem.W.keepIn K (.ref f1) = true) (b1 : Binds K fd1 ["thing"] []) (g1 : mg "is_work" = some (.ref f1)) :
    FnOk P w K mg base CX0 (k + 1) f fd ["thing"] (spReq K) := by
  refine F.ok sc_require_work (fun vs H Q E h => ?_) (fun cdv A outer s H vs Q E hr h => ?_)
  · obtain ⟨a, ns, rfl, _⟩ := h; rfl
  · obtain ⟨a, ns, rfl, hS, hw, q⟩ := h
    refine ⟨_, pss_one (ps_if (pt_not (pt_val (pe_call G1 hr (by rfl) g1 kp1 b1 .nil pass0 (pa_cons (pv 0) pa_nil)))) (pss_one ps_never) pss_nil), ?_⟩
    exact ⟨.ref a, rfl, a, ns, rfl, hS, hw, fun H' sm => ⟨true, rfl, iteF (q H' sm)⟩⟩
/-! ### _clashes_behind -/
def spClash (K : PySem.W.Frag) : Sp := fun vs H Q _ => ∃ (a b : Addr) (one other : List Int) (d : Nat), vs = [.ref a, .ref b, .int d] ∧ SqT K H a (one.map V.int) ∧ SqT K H b (other.map V.int) ∧ one.length ≤ 60 ∧ 1 ≤ d ∧ d < one.length ∧
  ∀ H', Same H H' → Q (.bl (clashB one other d)) H'
theorem ok_clashes_behind {f : Addr} {fd : FuncData} {k : Nat} (F : Fun K "_clashes_behind" "_clashes_behind" s_clashes_behind f fd) (N : Nums mg) (m1 : mg "any" = none) (m2 : mg "zip" = none) :
    FnOk P w K mg base CX0 (k + 1) f fd ["one", "other", "distance"] (spClash K) := by
  obtain ⟨t1, n1⟩ := N.nowhere
  refine F.ok sc_clashes_behind (fun vs H Q E h => ?_) (fun cdv A outer s H vs Q E hr h => ?_)
  · obtain ⟨a, b, o1, o2, d, rfl, _⟩ := h; rfl
  · obtain ⟨a, b, one, other, d, rfl, hA, hB, hm, hd1, hd2, q⟩ := h
    refine ⟨_, pss_one (ps_ret (pe_callB (cr_any rfl) (by rfl) m1 (by decide +kernel) (pa_cons
      (pe_lc (own := [("here", 3), ("there", 4)]) (g := gTup K 2 (gCons (gName 3) (gCons (gName 4) gNil))) (tt := tYes) rfl sc_clashes_behind.nd (RZ.pi_zipA (by rfl) m2 (pa_cons (pe_slice sl_tup (pv 0) (po_some (pv 2)) po_none) (pa_cons (pv 1) pa_nil)))
        (blkOk_by (N := ["one", "other", "distance", "here", "there"]) (sc := defScope s_clashes_behind) (by decide +kernel))
        (fun _ _ _ _ _ => pg_tup rfl (pgs_cons (pg_name (i := 3) sc_clashes_behind.nd rfl (Or.inl rfl)) (pgs_cons (pg_name (i := 4) sc_clashes_behind.nd rfl (Or.inl rfl)) pgs_nil)))
        (fun _ _ _ _ _ => pts_nil)
        (fun _ _ _ _ _ => pe_and (pe_cmpR op_eq (pv 3) (pv 4) (nomark _)) (pe_one (pe_cmpR op_ne (pv 3) (pe_glob (v := .int (-1)) (by rfl) n1 ⟨_, rfl⟩) (nomark _))))) pa_nil))), ?_⟩
    have hcut : cutV (one.map V.int) (some (d : Int)) none = (one.drop d).map V.int := by rw [cut_from, List.map_drop]
    refine ⟨.ref a, rfl, .int d, rfl, d, rfl, a, _, rfl, hA, ?_, fun c nc => ?_⟩
    · rintro ⟨z, _⟩
      rw [HT.sIx_nat, List.length_map] at z
      omega
    rw [hcut]
    have s1 : Same H (upd H c (.tup ((one.drop d).map V.int))) := same_new nc
    refine ⟨.ref b, rfl, c, b, _, _, rfl, .inr ⟨.of upd_same, Same.tup s1 hB, fun D hD => ?_⟩⟩
    have s2 : Same (upd H c (.tup ((one.drop d).map V.int))) (upd (upd H c (.tup ((one.drop d).map V.int))) D (.lst [])) := same_new hD
    have hc0 : (upd H c (.tup ((one.drop d).map V.int))) c = some (.tup ((one.drop d).map V.int)) := upd_same
    refine lc_it (walk_zipT (xs := (one.drop d).map V.int) (ys := other.map V.int) (n := min (one.drop d).length other.length) (by rw [List.length_map, List.length_map]))
      (fun i H' => Same (upd H c (.tup ((one.drop d).map V.int))) H' ∧ H' D = some (.lst ((hitsTo one other d i).map V.bl))) ⟨s2, upd_same⟩
      (fun i H' _ h => ⟨.of (h.1 _ _ hc0), Same.tup (s1.trans h.1) hB⟩) (fun i x H' H'' hi h hY => ?_) (fun H' h => ?_)
    · obtain ⟨T, x1, x2, rfl, nT, rfl, f1, f2⟩ := hY
      dsimp only at f1 f2
      rw [List.getElem?_map] at f1 f2
      obtain ⟨z1, hz1, rfl⟩ := Option.map_eq_some_iff.mp f1
      obtain ⟨z2, hz2, rfl⟩ := Option.map_eq_some_iff.mp f2
      have nTD : D ≠ T := ne_of_none h.2 nT
      refine ⟨T, _, rfl, .of upd_same, rfl, _, _, rfl, _, _, rfl, rfl, rfl, ?_⟩
      have fin : ∀ bb : Bool, bb = (z1 == z2 && z1 != -1) → ∃ acc, (upd H' T (.tup [V.int z1, V.int z2])) D = some (.lst acc) ∧ acc.length < sizeLine ∧
          (Same (upd H c (.tup ((one.drop d).map V.int))) (upd (upd H' T (.tup [V.int z1, V.int z2])) D (.lst (acc ++ [V.bl bb]))) ∧ (upd (upd H' T (.tup [V.int z1, V.int z2])) D (.lst (acc ++ [V.bl bb]))) D = some (.lst ((hitsTo one other d (i + 1)).map V.bl))) := by
        rintro bb rfl
        refine ⟨_, by rw [upd_ne nTD]; exact h.2, ?_, fun y o e => ?_, ?_⟩
        · rw [List.length_map]
          have := hits_len one other d i
          exact small1000 (by rw [List.length_drop] at hi; omega)
        · rw [upd_ne (ne_of_none e hD)]
          exact same_new nT _ _ (h.1 _ _ e)
        · rw [upd_same, hits_succ hz1 hz2, List.map_append]
          rfl
      refine ⟨.int z1, rfl, .int z2, rfl, rfl, ?_⟩
      by_cases hz : z1 = z2
      · subst hz
        rw [decide_eq_true (rfl : V.int z1 = V.int z1)]
        refine ⟨true, rfl, iteT ⟨.int z1, rfl, rfl, ?_⟩⟩
        refine fin _ ?_
        by_cases hn : z1 = -1
        · subst hn; rfl
        · rw [decide_eq_false fun z => hn (V.int.inj z)]
          simp [hn]
      · rw [decide_eq_false fun z => hz (V.int.inj z)]
        refine ⟨false, rfl, iteF (fin _ ?_)⟩
        simp [hz]
    · refine ⟨D, _, rfl, .of h.2, ?_⟩
      rw [hits_any]
      exact q H' (s1.trans h.1)
/-! ### bars -/
def spBars (K : PySem.W.Frag) : Sp := fun vs H Q _ => ∃ (a b : Addr) (one other : List Int), vs = [.ref a, .ref b] ∧ SqT K H a (one.map V.int) ∧ SqT K H b (other.map V.int) ∧ IsWork one ∧ IsWork other ∧
  ∀ H' p, Same H H' → H p = none → H' p = some (.tup (nV (barsN one other))) → Q (.ref p) H'
theorem ok_bars {f f1 f2 : Addr} {fd fd1 fd2 : FuncData} {k : Nat} (F : Fun K "bars" "bars" s_bars f fd)
    (G1 : FnOk P w K mg base CX0 k f1 fd1 ["thing"] (spReq K)) (kp1 : PySem.W.keepIn K (.ref f1) = true) (b1 : Binds K fd1 ["thing"] []) (g1 : mg "require_work" = some (.ref f1))
    (G2 : FnOk P w K mg base CX0 k f2 fd2 ["one", "other", "distance"] (spClash K)) (kp2 : PySem.W.keepIn K (.ref f2) = true) (b2 : Binds K fd2 ["one", "other", "distance"] []) (g2 : mg "_clashes_behind" = some (.ref f2))
    (m1 : mg "tuple" = none) (m2 : mg "range" = none) (m3 : mg "len" = none) :
    FnOk P w K mg base CX0 (k + 1) f fd ["one", "other"] (spBars K) := by
  refine F.ok sc_bars (fun vs H Q E h => ?_) (fun cdv A outer s H vs Q E hr h => ?_)
  · obtain ⟨a, b, o1, o2, rfl, _⟩ := h; rfl
  · obtain ⟨a, b, one, other, rfl, hA, hB, w1, w2, q⟩ := h
    refine ⟨_, pss_cons (ps_expr (pe_call G1 hr (by rfl) g1 kp1 b1 .nil pass0 (pa_cons (pv 0) pa_nil))) (pss_cons (ps_expr (pe_call G1 hr (by rfl) g1 kp1 b1 .nil pass0 (pa_cons (pv 1) pa_nil)))
      (pss_one (ps_ret (pe_callTy call_tuple_of (by rfl) m1 (by decide +kernel) (pa_cons
        (pe_lc (own := [("distance", 2)]) (g := gName 2) rfl sc_bars.nd (pi_range2 (by rfl) m2 (pa_cons pe_int (pa_cons (pe_callB call_len_seq (by rfl) m3 PySem.boot_len (pa_cons (pv 0) pa_nil)) pa_nil)))
          (blkOk_by (N := ["one", "other", "distance"]) (sc := defScope s_bars) (by decide +kernel))
          (fun _ _ _ _ _ => pg_name (i := 2) sc_bars.nd rfl (Or.inl rfl))
          (fun _ _ _ _ _ => pts_one (pt_val (pe_call G2 hr (by rfl) g2 kp2 b2 .nil pass0 (pa_cons (pv 0) (pa_cons (pv 1) (pa_cons (pv 2) pa_nil))))))
          (fun _ _ _ _ _ => pv 2)) pa_nil))))), ?_⟩
    refine ⟨.ref a, rfl, a, one, rfl, hA, w1, fun H1 e1 => ?_⟩
    refine ⟨.ref b, rfl, b, other, rfl, Same.tup e1 hB, w2, fun H2 e2 => ?_⟩
    have e12 : Same H H2 := e1.trans e2
    have hA2 := Same.tup e12 hA
    have hB2 := Same.tup e12 hB
    refine ⟨.ref a, rfl, a, one.map V.int, rfl, .inr hA2, 1, _, rfl, ?_, fun D hD => ?_⟩
    · rw [List.length_map]
      have := w1.most
      omega
    have en : (((one.map V.int).length : Int) - 1).toNat = one.length - 1 := by rw [List.length_map]; omega
    rw [en]
    refine lc_range (lo := 1) (n := one.length - 1) (fun i H' => Same H2 H' ∧ H' D = some (.lst (nV (barsTo one other i)))) ⟨same_new hD, upd_same⟩ (fun i H' hi h => ?_) (fun H' h => ?_)
    · refine ⟨rfl, ?_⟩
      have ed : ((1 : Int) + (i : Int)) = ((1 + i : Nat) : Int) := by omega
      refine ⟨.ref a, rfl, .ref b, rfl, .int (1 + i), rfl, a, b, one, other, 1 + i, by rw [ed]; rfl, Same.tup h.1 hA2, Same.tup h.1 hB2, w1.most, by omega, by omega, fun H'' e3 => ?_⟩
      refine ⟨_, rfl, ?_⟩
      have hD3 := e3 _ _ h.2
      cases hc : clashB one other (1 + i) with
      | true =>
        refine iteT ⟨_, rfl, _, hD3, ?_, fun y o e => ?_, ?_⟩
        · rw [List.length_map]
          have := barsTo_len one other i
          have := w1.most
          exact small1000 (by omega)
        · rw [upd_ne (ne_of_none e hD)]
          exact e3 _ _ (h.1 _ _ e)
        · rw [upd_same, barsTo_yes hc]
      | false =>
        refine iteF ⟨h.1.trans e3, ?_⟩
        rw [barsTo_no hc]
        exact hD3
    · refine ⟨D, _, rfl, .inl ⟨.of h.2, fun l hl => ?_⟩⟩
      have e3 : Same H H' := e12.trans h.1
      exact q _ l (e3.trans (same_new hl)) (Same.free e3 hl) upd_same
end
end Sg
set_option Elab.async false
set_option linter.all false
set_option maxRecDepth 100000
set_option maxHeartbeats 4000000
namespace Sg
open PySem PySem.Spec PyProof.Rows L2
section
variable {P : Program} {w : World} {K : PySem.W.Frag} {mg : Str → Option Value} {base : Heap}
/-! ### len -/
def spLen (K : PySem.W.Frag) (C : Addr) : Sp := fun vs H Q _ => ∃ (a : Addr) (ws : List (List Int)), vs = [.ref a] ∧ LineAt K C H a ws ∧ Q (.int (ws.length : Nat)) H
theorem ok_len {f C : Addr} {fd : FuncData} {k : Nat} (F : Fun K "__len__" "Line.__len__" s_Line_len f fd) (T : LC K mg C) (m1 : mg "len" = none) :
    FnOk P w K mg base CX0 (k + 1) f fd ["self"] (spLen K C) := by
  refine F.ok sc_Line_len (fun vs H Q E h => ?_) (fun cdv A outer s H vs Q E hr h => ?_)
  · obtain ⟨a, ws, rfl, _⟩ := h; rfl
  · obtain ⟨a, ws, rfl, ⟨dx, t, b, r, h1, h2, h3, h4, h5⟩, q⟩ := h
    refine ⟨_, pss_one (ps_ret (pe_callB call_len_seq (by rfl) m1 PySem.boot_len (pa_cons (pe_fld (pv 0) rfl) pa_nil))), ?_⟩
    obtain ⟨t', xs, e, hS, hT⟩ := h2.toTup
    cases e
    refine ⟨.ref a, rfl, a, C, dx, _, _, rfl, h1, T.cl, T.nW, lf_works _ _ _, t, xs, rfl, .inr hS, ?_⟩
    have e := hT.len
    rw [List.length_map] at e
    rw [e]
    exact q
/-! ### is_kind -/
def spIsKind (K : PySem.W.Frag) (C : Addr) : Sp := fun vs H Q _ => ∃ (a : Addr) (ws : List (List Int)) (i : Int), vs = [.ref a, .int i] ∧ LineAt K C H a ws ∧ Q (.bl (decide (0 ≤ i) && decide (i ≤ (ws.length : Nat) - 1))) H
theorem ok_is_kind {f f1 f2 C : Addr} {fd fd1 fd2 : FuncData} {k : Nat} (F : Fun K "is_kind" "is_kind" s_is_kind f fd) (T : LC K mg C) (m1 : mg "len" = none)
    (G1 : FnOk P w K mg base CX0 k f1 fd1 ["thing", "least", "most"] spIsBetween) (kp1 : PySem.W.keepIn K (.ref f1) = true) (b1 : Binds K fd1 ["thing", "least", "most"] []) (g1 : mg "is_between" = some (.ref f1))
    (G2 : FnOk P w K mg base CX0 k f2 fd2 ["self"] (spLen K C)) (b2 : Binds K fd2 ["self"] []) (s2 : PySem.W.findIn K (.ref C) "__len__" = some (some (.ref f2))) (i2 : PySem.W.isFn K (.ref f2) = true) :
    FnOk P w K mg base CX0 (k + 2) f fd ["line", "thing"] (spIsKind K C) := by
  refine F.ok sc_is_kind (fun vs H Q E h => ?_) (fun cdv A outer s H vs Q E hr h => ?_)
  · obtain ⟨a, ws, i, rfl, _⟩ := h; rfl
  · obtain ⟨a, ws, i, rfl, hL, q⟩ := h
    refine ⟨_, pss_one (ps_ret (pe_call G1 (hr.mono (Nat.le_succ k)) (by rfl) g1 kp1 b1 .nil pass0 (pa_cons (pv 1) (pa_cons pe_int (pa_cons (pe_op op_sub (pe_callB (call_lenO G2 hr b2 s2 i2) (by rfl) m1 PySem.boot_len (pa_cons (pv 0) pa_nil)) pe_int) pa_nil))))), ?_⟩
    refine ⟨.int i, rfl, .ref a, rfl, a, rfl, hL.ins, a, ws, rfl, hL, ws.length, rfl, ?_, _, 1, rfl, rfl, i, 0, _, rfl, q⟩
    have := hL.good.few
    omega
def spReqKind (K : PySem.W.Frag) (C : Addr) : Sp := fun vs H Q _ => ∃ (a : Addr) (ws : List (List Int)) (i : Nat), vs = [.ref a, .int i] ∧ LineAt K C H a ws ∧ i < ws.length ∧ Q .non H
theorem ok_require_kind {f f1 C : Addr} {fd fd1 : FuncData} {k : Nat} (F : Fun K "require_kind" "require_kind" s_require_kind f fd)
    (G1 : FnOk P w K mg base CX0 k f1 fd1 ["line", "thing"] (spIsKind K C)) (kp1 : PySem.W.keepIn K (.ref f1) = true) (b1 : Binds K fd1 ["line", "thing"] []) (g1 : mg "is_kind" = some (.ref f1)) :
    FnOk P w K mg base CX0 (k + 1) f fd ["line", "thing"] (spReqKind K C) := by
  refine F.ok sc_require_kind (fun vs H Q E h => ?_) (fun cdv A outer s H vs Q E hr h => ?_)
  · obtain ⟨a, ws, i, rfl, _⟩ := h; rfl
  · obtain ⟨a, ws, i, rfl, hL, hi, q⟩ := h
    refine ⟨_, pss_one (ps_if (pt_not (pt_val (pe_call G1 hr (by rfl) g1 kp1 b1 .nil pass0 (pa_cons (pv 0) (pa_cons (pv 1) pa_nil))))) (pss_one ps_never) pss_nil), ?_⟩
    refine ⟨.ref a, rfl, .int i, rfl, a, ws, i, rfl, hL, ?_⟩
    rw [decide_eq_true (show (0 : Int) ≤ i by omega), decide_eq_true (show (i : Int) ≤ (ws.length : Nat) - 1 by omega)]
    exact ⟨true, rfl, iteF q⟩
/-! ### _bars_of_all -/
def spBarsAll (K : PySem.W.Frag) : Sp := fun vs H Q _ => ∃ (a : Addr) (ws : List (List Int)), vs = [.ref a] ∧ Tp K H (.ref a) (.tuple (tDs ws)) ∧ GoodL ws ∧
  ∀ H' p, Same H H' → Tp K H' (.ref p) (.tuple (barD ws)) → Q (.ref p) H'
theorem ok_bars_of_all {f f1 : Addr} {fd fd1 : FuncData} {k : Nat} (F : Fun K "_bars_of_all" "_bars_of_all" s_bars_of_all f fd) (m1 : mg "tuple" = none)
    (G1 : FnOk P w K mg base CX0 k f1 fd1 ["one", "other"] (spBars K)) (kp1 : PySem.W.keepIn K (.ref f1) = true) (b1 : Binds K fd1 ["one", "other"] []) (g1 : mg "bars" = some (.ref f1)) :
    FnOk P w K mg base CX0 (k + 1) f fd ["works"] (spBarsAll K) := by
  refine F.ok sc_bars_of_all (fun vs H Q E h => ?_) (fun cdv A outer s H vs Q E hr h => ?_)
  · obtain ⟨a, ws, rfl, _⟩ := h; rfl
  · obtain ⟨a, ws, rfl, hW, hg, q⟩ := h
    refine ⟨_, pss_one (ps_ret (pe_callTy call_tuple_of (by rfl) m1 (by decide +kernel) (pa_cons
      (pe_lc (own := [("one", 2)]) (g := gName 2) (tt := tYes) rfl sc_bars_of_all.nd (pi_tup (pv 0)) (blkOk_by (N := ["works", "other", "one"]) (sc := defScope s_bars_of_all) (by decide +kernel))
        (fun _ _ _ _ _ => pg_name (i := 2) sc_bars_of_all.nd rfl (Or.inr rfl)) (fun _ _ _ _ _ => pts_nil)
        (fun s' H' C' cl fp => pe_callTy (call_tuple_ofK (K := K) rfl) (by rfl) m1 (by decide +kernel) (pa_cons
          (pe_lc (own := [("other", 1)]) (g := gName 1) (tt := tYes) rfl sc_bars_of_all.nd (pi_tupK (K := K) rfl (pv 0)) (blkOk_by (by rfl))
            (fun _ _ _ _ _ => pg_name (i := 1) sc_bars_of_all.nd rfl (Or.inl rfl)) (fun _ _ _ _ _ => pts_nil)
            (fun _ _ _ _ _ => pe_call G1 hr (by rfl) g1 kp1 b1 .nil pass0 (pa_cons (pv 2) (pa_cons (pv 1) pa_nil)))) pa_nil))) pa_nil))), ?_⟩
    obtain ⟨a', xs, ea, hS, hT⟩ := hW.toTup
    cases ea
    have hlen := hT.len
    rw [List.length_map] at hlen
    refine ⟨.ref a, rfl, a, rfl, ⟨_, hS⟩, fun D hD => ?_⟩
    refine lc_tup (xs := xs) (fun i H' => Grow K H D (barD ws) i H') (.zero hD) (fun i H' _ h => Same.tup h.1 hS) (fun i x H' hx h => ?_) (fun H' h => ?_)
    · obtain ⟨o, c1, ho, rfl, hc1⟩ := hT.works hx
      have fewr : (ws.map (cellD o)).length ≤ 1000 := by
        have := hg.few
        rw [List.length_map]
        omega
      refine ⟨rfl, ?_⟩
      refine ⟨.ref a, rfl, a, rfl, ⟨_, Same.tup h.1 hS⟩, fun D2 hD2 => ?_⟩
      refine lc_tup (xs := xs) (fun j H2 => Grow K H' D2 (ws.map (cellD o)) j H2) (.zero hD2) (fun i H2 _ h2 => Same.tup (h.1.trans h2.1) hS) (fun j y H2 hy h2 => ?_) (fun H2 h2 => ?_)
      · obtain ⟨o2, c2, ho2, rfl, hc2⟩ := hT.works hy
        refine ⟨rfl, .ref c1, rfl, .ref c2, rfl, c1, c2, o, o2, rfl, Same.tup (h.1.trans h2.1) hc1, Same.tup (h.1.trans h2.1) hc2, hg.mem ho, hg.mem ho2, fun H3 p e3 np hp => ?_⟩
        refine h2.next hD2 fewr e3 (by rw [List.getElem?_map, ho2]; rfl) (.ofInts ?_)
        rw [← nV_eq]
        exact .of hp
      · obtain ⟨e2, acc, g1, g2⟩ := h2.done (by rw [List.length_map, hlen])
        refine ⟨D2, acc, rfl, .inl ⟨.of g1, fun l nl => ?_⟩⟩
        exact h.next hD hg.lt (e2.trans (same_new nl)) (by rw [List.getElem?_map, ho]; rfl) (.new nl g2)
    · obtain ⟨e2, acc, g1, g2⟩ := h.done (by rw [List.length_map, hlen])
      exact ⟨D, acc, rfl, .inl ⟨.of g1, fun l nl => q _ l (e2.trans (same_new nl)) (.new nl g2)⟩⟩
end
end Sg
set_option Elab.async false
set_option linter.all false
set_option maxRecDepth 100000
set_option maxHeartbeats 4000000
namespace Sg
open PySem PySem.Spec PyProof.Rows L2 StX
/-! ## the bars of a line, flat -/
theorem flatL_of {K : PySem.W.Frag} {H : Hp} {a : List Int} : ∀ {cells : List V} {ws : List (List Int)}, TpAll K H cells (ws.map (cellD a)) → FlatL K H cells ((rowB a ws).map V.int)
  | _, [], .no => .nil
  | _, b :: ws, .on t r => by
    obtain ⟨c, rfl, hs⟩ := t.toInts
    show FlatL K H _ ((nI (barsN a b) ++ rowB a ws).map V.int)
    rw [List.map_append]
    exact .cons hs (flatL_of r)
theorem flatR_of {K : PySem.W.Frag} {H : Hp} {vs : List (List Int)} : ∀ {rows : List V} {ws : List (List Int)}, TpAll K H rows (ws.map fun a => rowD a vs) → FlatR K H rows ((allB ws vs).map V.int)
  | _, [], .no => .nil
  | _, b :: ws, .on t r => by
    obtain ⟨c, xs, rfl, hs, ht⟩ := t.toTup
    show FlatR K H _ ((rowB b vs ++ allB ws vs).map V.int)
    rw [List.map_append]
    exact .cons hs (flatL_of ht) (flatR_of r)
theorem bars_le {a b : List Int} (h : IsWork a) : (nI (barsN a b)).length ≤ 60 := by
  rw [List.length_map]
  have := h.most
  exact Nat.le_trans (barsTo_len a b (a.length - 1)) (by omega)
theorem rowB_len {a : List Int} (h : IsWork a) : ∀ (ws : List (List Int)), (rowB a ws).length ≤ 60 * ws.length
  | [] => Nat.le_refl _
  | b :: ws => by
    show (nI (barsN a b) ++ rowB a ws).length ≤ _
    rw [List.length_append, List.length_cons]
    have := bars_le h (b := b)
    have := rowB_len h ws
    omega
theorem allB_len {vs : List (List Int)} : ∀ (ws : List (List Int)), (∀ w ∈ ws, IsWork w) → (allB ws vs).length ≤ 60 * vs.length * ws.length
  | [], _ => Nat.zero_le _
  | b :: ws, h => by
    show (rowB b vs ++ allB ws vs).length ≤ _
    rw [List.length_append, List.length_cons, Nat.mul_succ]
    have := rowB_len (h b List.mem_cons_self) vs
    have := allB_len (vs := vs) ws fun w hw => h w (List.mem_cons_of_mem _ hw)
    omega
theorem mem_allB {ws vs : List (List Int)} {x : Int} : x ∈ allB ws vs ↔ ∃ a ∈ ws, ∃ b ∈ vs, x ∈ nI (barsN a b) := by
  unfold allB rowB
  simp only [List.mem_flatMap]
theorem bar_pos {a b : List Int} {x : Int} (h : x ∈ nI (barsN a b)) : 1 ≤ x := by
  obtain ⟨d, hd, rfl⟩ := List.mem_map.mp h
  have := (List.mem_range'_1.mp (List.mem_filter.mp hd).1).1
  omega
theorem top_of {l : List Int} {m : Int} (hp : ∀ x ∈ l, 1 ≤ x) (h0 : l = [] → m = 0) (h1 : l ≠ [] → m ∈ l ∧ ∀ x ∈ l, x ≤ m) : Top l m := by
  by_cases z : l = []
  · have e := h0 z
    subst z
    exact ⟨by omega, fun x hx => (nomatch hx), .inl e⟩
  · obtain ⟨g1, g2⟩ := h1 z
    exact ⟨by have := hp _ g1; omega, g2, .inr g1⟩
section
variable {P : Program} {w : World} {K : PySem.W.Frag} {mg : Str → Option Value} {base : Heap}
/-! ### __init__ -/
def spInit (K : PySem.W.Frag) (C : Addr) : Sp := fun vs H Q _ => ∃ (x dx : Addr) (rest : List V) (ws : List (List Int)), vs = .ref x :: rest ∧ H x = some (.ins C dx []) ∧ TpAll K H rest (tDs ws) ∧ GoodL ws ∧
  ∀ H', (∀ b o, H b = some o → b ≠ x → H' b = some o) → LineAt K C H' x ws → Q .non H'
theorem ok_init {f f1 f2 C : Addr} {fd fd1 fd2 : FuncData} {k : Nat} (F : Fun K "__init__" "Line.__init__" s_Line_init f fd) (T : LC K mg C) (hM : ∃ t, mg "MOST_WORKS" = some (.int 3 t))
    (G1 : FnOk P w K mg base CX0 k f1 fd1 ["thing"] (spIsWork K)) (kp1 : PySem.W.keepIn K (.ref f1) = true) (b1 : Binds K fd1 ["thing"] []) (g1 : mg "is_work" = some (.ref f1))
    (G2 : FnOk P w K mg base CX0 k f2 fd2 ["works"] (spBarsAll K)) (kp2 : PySem.W.keepIn K (.ref f2) = true) (b2 : Binds K fd2 ["works"] []) (g2 : mg "_bars_of_all" = some (.ref f2))
    (m1 : mg "all" = none) (m2 : mg "len" = none) (m3 : mg "max" = none) : FnR P w K mg base CX0 (k + 1) f (spInit K C) := by
  obtain ⟨tM, nM⟩ := hM
  obtain ⟨oc, od, kV, doc, pm, an, cdv, ct, osl, rfl, lk, hcd⟩ := F.ex
  have R := fn_star (CX := CX0) (P := P) (w := w) (mg := mg) (base := base) (k := k) (ps := ["self"]) (pv := "works") (sp := fun vs H Q _ => ∃ (x dx p : Addr) (rest : List V) (ws : List (List Int)), vs = [.ref x, .ref p] ∧ H x = some (.ins C dx []) ∧ H p = some (.tup rest) ∧ TpAll K H rest (tDs ws) ∧ GoodL ws ∧
    ∀ H', (∀ b o, H b = some o → b ≠ x → H' b = some o) → LineAt K C H' x ws → Q .non H') lk hcd sc_Line_init cxUp_none (bind_star1 (B := fun us => bindArgs (PySem.W.fnOf "__init__" "Line.__init__" (defArgs s_Line_init) (defBody s_Line_init) (defScope s_Line_init) .none kV doc pm an cdv ct) ⟨us, []⟩) (fun _ => rfl) (fun _ _ _ => rfl)) ?_
  · refine R.imp fun vs H Q E h => ?_
    obtain ⟨x, dx, rest, ws, rfl, hx, hT, hg, q⟩ := h
    have hl := hT.len
    have := hg.few
    rw [List.length_map] at hl
    refine ⟨[.ref x], rest, rfl, rfl, Nat.le_of_lt (small1000 (by omega)), fun p np => ⟨x, dx, p, rest, ws, rfl, same_new np _ _ hx, upd_same, hT.stay (.of (same_new np)), hg, fun H' hk hL => q H' (fun b o e hb => hk b o (same_new np _ _ e) hb) hL⟩⟩
  · intro A outer s H vs Q E hr h
    obtain ⟨x, dx, p, rest, ws, rfl, hx, hp, hT, hg, q⟩ := h
    refine ⟨_, pss_cons (ps_if (PW.pt (pw_or (pt_not (pt_truth (pv 1) (fun _ => rfl))) (pw_or1 (pt_not (pt_val (pe_callB (cr_all rfl) (by rfl) m1 (by decide +kernel) (pa_cons
        (pe_lc (own := [("work", 2)]) (g := gName 2) (tt := tYes) rfl sc_Line_init.nd (pi_tup (pv 1)) (blkOk_by (N := ["self", "works", "work", "row", "pair", "bar"]) (sc := defScope s_Line_init) (by decide +kernel))
          (fun _ _ _ _ _ => pg_name (i := 2) sc_Line_init.nd rfl (Or.inl rfl)) (fun _ _ _ _ _ => pts_nil)
          (fun _ _ _ _ _ => pe_call G1 hr (by rfl) g1 kp1 b1 .nil pass0 (pa_cons (pv 2) pa_nil))) pa_nil))))))) (pss_one ps_never) pss_nil)
      (pss_cons (ps_if (pt_cmpR op_gt (pe_callB call_len_seq (by rfl) m2 PySem.boot_len (pa_cons (pv 1) pa_nil)) (pe_glob (v := .int 3) (by rfl) nM ⟨_, rfl⟩) (nomark _)) (pss_one ps_never) pss_nil)
      (pss_cons (ps_fld (pv 0) (pv 1) rfl)
      (pss_cons (ps_fld (pv 0) (pe_call G2 hr (by rfl) g2 kp2 b2 .nil pass0 (pa_cons (pv 1) pa_nil)) rfl)
      (pss_one (ps_fld (pv 0) (pe_callBK (cr_maxD rfl hr) (by rfl) m3 (by decide +kernel) (pa_cons (pe_flat (k1 := 3) (k2 := 4) (k3 := 5) (own := [("row", 3), ("pair", 4), ("bar", 5)]) rfl sc_Line_init.nd (pe_fld (pv 0) rfl)
          (blkOk_by (N := ["self", "works", "work", "row", "pair", "bar"]) (sc := defScope s_Line_init) (by decide +kernel)) rfl rfl rfl (fun _ _ => rfl) (fun _ _ => rfl) (fun _ _ => rfl)) pa_nil) (pk_cons pe_int pk_nil)) rfl))))), ?_⟩
    have hl := hT.len
    rw [List.length_map] at hl
    have hp' : SqT K H p rest := .of hp
    have hemp : (!rest.isEmpty) = true := by
      have := hg.least
      cases rest with
      | nil => rw [← hl] at this; exact absurd this (by decide)
      | cons => rfl
    refine ⟨.ref p, rfl, !rest.isEmpty, .inr (.inl ⟨rest, hp', rfl⟩), ?_⟩
    rw [hemp]
    refine iteF ?_
    refine ⟨.ref p, rfl, p, rfl, ⟨_, hp'⟩, fun D hD => ?_⟩
    refine lc_tup (xs := rest) (fun i H' => Same H H' ∧ H' D = some (.lst (((List.replicate i true)).map V.bl))) ⟨same_new hD, upd_same⟩ (fun i H' _ h => Same.tup h.1 hp') (fun i y H' hy h => ?_) (fun H' h => ?_)
    · obtain ⟨w1, c, hw, rfl, hc⟩ := hT.works hy
      refine ⟨rfl, .ref c, rfl, c, w1, rfl, Same.tup h.1 hc, hg.mem hw, fun H2 e2 => ?_⟩
      refine ⟨_, e2 _ _ h.2, ?_, fun b o e => ?_, ?_⟩
      · rw [List.length_map, List.length_replicate]
        have := hg.few
        have := (List.getElem?_eq_some_iff.mp hw).1
        exact small1000 (by omega)
      · rw [upd_ne (ne_of_none e hD)]
        exact e2 _ _ (h.1 _ _ e)
      · rw [upd_same, List.replicate_succ', List.map_append]
        rfl
    · have hall : (List.replicate rest.length true).all id = true := by simp
      refine ⟨D, _, rfl, .of h.2, true, congrArg V.bl hall, iteF ?_⟩
      have hpH : SqT K H' p rest := Same.tup h.1 hp'
      refine ⟨.ref p, rfl, p, rest, rfl, .inr hpH, _, 3, rfl, rfl, _, rfl, ?_⟩
      have c3 : decide ((((rest.length : Nat) : Int)) > 3) = false := decide_eq_false (by have := hg.few; omega)
      rw [c3]
      refine iteF ?_
      have hx1 := h.1 _ _ hx
      refine ⟨.ref p, rfl, .ref x, rfl, x, C, dx, [], rfl, hx1, T.cl, T.nW, (by show 0 < 1000; decide), ?_⟩
      have hW1 : Tp K H' (.ref p) (.tuple (tDs ws)) := .tu hpH (hT.stay (.of h.1))
      have hW2 := hW1.stayT (tu_ins hx1 (o := .ins C dx (putF "_works" (.ref p) [])))
      generalize hH2 : upd H' x (.ins C dx (putF "_works" (.ref p) [])) = H2 at hW2 ⊢
      have hx2 : H2 x = some (.ins C dx (putF "_works" (.ref p) [])) := by rw [← hH2]; exact upd_same
      refine ⟨.ref p, rfl, p, ws, rfl, hW2, hg, fun H3 b e3 hb => ?_⟩
      have hx3 := e3 _ _ hx2
      refine ⟨.ref x, rfl, x, C, dx, _, rfl, hx3, T.cl, T.nB, (by show 1 < 1000; decide), ?_⟩
      have hW4 := (hW2.stay (.of e3)).stayT (tu_ins hx3 (o := .ins C dx (putF "_bars" (.ref b) (putF "_works" (.ref p) []))))
      have hB4 := hb.stayT (tu_ins hx3 (o := .ins C dx (putF "_bars" (.ref b) (putF "_works" (.ref p) []))))
      generalize hH4 : upd H3 x (.ins C dx (putF "_bars" (.ref b) (putF "_works" (.ref p) []))) = H4 at hW4 hB4 ⊢
      have hx4 : H4 x = some (.ins C dx (putF "_bars" (.ref b) (putF "_works" (.ref p) []))) := by rw [← hH4]; exact upd_same
      obtain ⟨b', rows, eb, hbS, hbT⟩ := hB4.toTup
      cases eb
      have lb : (putF "_bars" (.ref b) (putF "_works" (.ref p) [])).lookup ("_bars" : Str) = some (.ref b) := by rw [lookup_putF, if_pos rfl]
      have lenB : ((allB ws ws).map V.int).length ≤ 1000000 := by
        rw [List.length_map]
        have z := allB_len (vs := ws) ws hg.work
        have := hg.few
        have z2 : 60 * ws.length * ws.length ≤ 60 * 3 * 3 := Nat.mul_le_mul (Nat.mul_le_mul (Nat.le_refl _) this) this
        omega
      refine ⟨.ref x, rfl, x, C, dx, _, _, rfl, hx4, T.cl, T.nB, lb, b, rows, _, rfl, hbS, flatR_of hbT, lenB, fun D2 nD2 => ?_⟩
      have s5 : Same H4 (upd H4 D2 (.lst ((allB ws ws).map V.int))) := same_new nD2
      refine ⟨D2, allB ws ws, 0, rfl, rfl, .of upd_same, fun m h0 h1 => ?_⟩
      have hx5 := s5 _ _ hx4
      refine ⟨.ref x, rfl, x, C, dx, _, rfl, hx5, T.cl, T.nR, (by show 2 < 1000; decide), ?_⟩
      have hW6 := (hW4.stay (.of s5)).stayT (tu_ins hx5 (o := .ins C dx (lf p b m)))
      have hB6 := (hB4.stay (.of s5)).stayT (tu_ins hx5 (o := .ins C dx (lf p b m)))
      refine q _ (fun c o e hc => ?_) ⟨dx, p, b, m, upd_same, hW6, hB6, top_of (fun y hy => ?_) h0 h1, hg⟩
      · rw [upd_ne hc]
        refine s5 _ _ ?_
        rw [← hH4, upd_ne hc]
        refine e3 _ _ ?_
        rw [← hH2, upd_ne hc]
        exact h.1 _ _ e
      · obtain ⟨_, _, _, _, z⟩ := mem_allB.mp hy
        exact bar_pos z
end
end Sg
set_option Elab.async false
set_option linter.all false
set_option maxRecDepth 100000
set_option maxHeartbeats 4000000
namespace Sg
open PySem PySem.Spec PyProof.Rows L2 StX
/-! ## a Line is made -/
theorem make_line {K : PySem.W.Frag} {C : Addr} {H1 : Hp} {vs : List V} {ws : List (List Int)} {Q : VK} (hT : TpAll K H1 vs (tDs ws)) (hg : GoodL ws)
    (q : ∀ H' a, Same H1 H' → H1 a = none → LineAt K C H' a ws → Q (.ref a) H') :
    ∀ x dx, H1 x = none → H1 dx = none → dx ≠ x → spInit K C (V.ref x :: vs) (upd (upd H1 dx (.own x)) x (.ins C dx [])) (fun v H2 => v = .non ∧ Q (.ref x) H2) E0 := by
  intro x dx nx ndx ne
  have s0 : Same H1 (upd (upd H1 dx (.own x)) x (.ins C dx [])) := fun b o e => by
    rw [upd_ne (ne_of_none e nx), upd_ne (ne_of_none e ndx)]
    exact e
  exact ⟨x, dx, vs, ws, rfl, upd_same, hT.stay (.of s0), hg, fun H' hk hL => ⟨rfl, q H' x (fun b o e => hk b o (s0 b o e) (ne_of_none e nx)) nx hL⟩⟩
/-- C(*e) -/
theorem pe_makeS {X : Cx} {CX : CXT} {k : Nat} {f C : Addr} {sp : Sp} {E : XK} {x : Str} {e : Expr} {te : TE} {p pos sp_ : Pos} (M : Mk X.K C f) (F : FnR X.prog X.w X.K X.mg X.base CX k f sp) (hr : Room (k + 1) X.A)
    (hg : Gl X x) (hm : X.mg x = some (.ref C)) (hx : Passes CX X E) (he : PE X e te) (hd : (x == ("__debug__" : Str)) = false := by decide) (hst : starEach [.Starred e sp_] X.env = [(true, eval e X.env)] := by rfl) :
    PE X (.Call (.Name x p) [.Starred e sp_] [] pos) (fun σ H Q => te σ H fun y H1 => ∃ a xs, y = V.ref a ∧ (SqT X.K H1 a xs ∨ SqL X.K H1 a xs) ∧
      ∀ z dz, H1 z = none → H1 dz = none → dz ≠ z → sp (V.ref z :: xs) (upd (upd H1 dz (.own z)) z (.ins C dz [])) (fun v H2 => v = .non ∧ Q (.ref z) H2) E) := by
  refine ⟨fun pins s σ H Q I h => wpAny_Call_Name_kw (ld_glob I hg hm ?_ hd)⟩
  refine PySem.W.callWith_S (h₀ := X.base) I.ok.mod.kin M.kp (thn (he.run pins s σ H _ I h) fun v s1 ⟨y, H1, I1, ry, a, xs, ey, hxs, q⟩ => ?_) hst
  subst ey
  obtain rfl : v = Value.ref a := ry
  exact star_any I1 hxs fun us s2 I2 rv => ⟨I2.kIn, run_makeR M F hr hx I2 rv q⟩
theorem GoodL.back {ws : List (List Int)} (h : GoodL ws) : GoodL (ws.map List.reverse) := by
  refine ⟨by rw [List.length_map]; exact h.least, by rw [List.length_map]; exact h.few, fun w hw => ?_⟩
  obtain ⟨v, hv, rfl⟩ := List.mem_map.mp hw
  have i := h.work v hv
  refine ⟨by rw [List.length_reverse]; exact i.pos, by rw [List.length_reverse]; exact i.most, fun x hx => i.items x (List.mem_reverse.mp hx), fun x hx => ?_, fun x hx => ?_⟩
  · have := i.pos
    rw [List.getElem?_reverse (by omega)] at hx
    exact i.last x (by rw [← hx]; congr 1)
  · have := i.pos
    rw [List.length_reverse, List.getElem?_reverse (by omega)] at hx
    exact i.head x (by rw [← hx]; congr 1; omega)
theorem cut_upto (xs : List V) (d : Nat) : cutV xs none (some (d : Int)) = xs.take d := by
  unfold cutV
  rw [HT.sIx_nat, HT.sIx_none, List.drop_zero, Nat.sub_zero]
  rcases Nat.le_total d xs.length with h | h
  · rw [Nat.min_eq_left h]
  · rw [Nat.min_eq_right h, List.take_of_length_le h, List.take_length]
end Sg
set_option Elab.async false
set_option linter.all false
set_option maxRecDepth 100000
set_option maxHeartbeats 4000000
namespace Sg
open PySem PySem.Spec PyProof.Rows L2 StX
/-- what isinstance asks of the class -/
structure LI (K : PySem.W.Frag) (C : Addr) : Prop where
  ha : PySem.W.findIn K (.ref C) "__class__" = some (some (.builtin "object.__class__"))
  hn : PySem.W.specialIn K (.builtin "object.__class__") "__get__" = some (some (.builtin "getset_descriptor.__get__"))
  ht : PySem.W.takesIn K (.builtin "object.__class__") = some true
  hm : PySem.W.mroIn K C (.type "object") = some true
  kit : PySem.W.kitOne K (.ref C) (.ref C) = some true
section
variable {P : Program} {w : World} {K : PySem.W.Frag} {mg : Str → Option Value} {base : Heap}
theorem isLine {C a : Addr} {H : Hp} {ws : List (List Int)} (c : Cls K C) (T : LI K C) (h : LineAt K C H a ws) : TyX K H (.ref a) (.ref C) := by
  obtain ⟨dx, t, b, r, h1, _⟩ := h
  exact .base (.ins h1 c T.ha T.hn T.ht T.hm)
/-! ### line(one, other) -/
def spCall (K : PySem.W.Frag) (C : Addr) : Sp := fun vs H Q _ => ∃ (a : Addr) (ws : List (List Int)) (i j : Nat) (x y : List Int), vs = [.ref a, .int i, .int j] ∧ LineAt K C H a ws ∧ ws[i]? = some x ∧ ws[j]? = some y ∧
  ∀ c, SqT K H c (nV (barsN x y)) → Q (.ref c) H
theorem ok_call {f f1 C : Addr} {fd fd1 : FuncData} {k : Nat} (F : Fun K "__call__" "Line.__call__" s_Line_call f fd) (T : LC K mg C)
    (G1 : FnOk P w K mg base CX0 k f1 fd1 ["line", "thing"] (spReqKind K C)) (kp1 : PySem.W.keepIn K (.ref f1) = true) (b1 : Binds K fd1 ["line", "thing"] []) (g1 : mg "require_kind" = some (.ref f1)) :
    FnOk P w K mg base CX0 (k + 1) f fd ["self", "one", "other"] (spCall K C) := by
  refine F.ok sc_Line_call (fun vs H Q E h => ?_) (fun cdv A outer s H vs Q E hr h => ?_)
  · obtain ⟨a, ws, i, j, x, y, rfl, _⟩ := h; rfl
  · obtain ⟨a, ws, i, j, x, y, rfl, hL, hx, hy, q⟩ := h
    refine ⟨_, pss_cons (ps_expr (pe_call G1 hr (by rfl) g1 kp1 b1 .nil pass0 (pa_cons (pv 0) (pa_cons (pv 1) pa_nil))))
      (pss_cons (ps_expr (pe_call G1 hr (by rfl) g1 kp1 b1 .nil pass0 (pa_cons (pv 0) (pa_cons (pv 2) pa_nil))))
      (pss_one (ps_ret (pe_ix ix_tup (pe_ix ix_tup (pe_fld (pv 0) rfl) (pv 1) (fun _ _ => rfl)) (pv 2) (fun _ _ => rfl))))), ?_⟩
    have hi := (List.getElem?_eq_some_iff.mp hx).1
    have hj := (List.getElem?_eq_some_iff.mp hy).1
    refine ⟨.ref a, rfl, .int i, rfl, a, ws, i, rfl, hL, hi, .ref a, rfl, .int j, rfl, a, ws, j, rfl, hL, hj, ?_⟩
    obtain ⟨dx, t, b, r, h1, h2, h3, h4, h5⟩ := hL
    obtain ⟨b', rows, eb, hS, hT⟩ := h3.toTup
    cases eb
    have lr := hT.len
    rw [List.length_map] at lr
    obtain ⟨ro, hro⟩ : ∃ ro, rows[i]? = some ro := ⟨rows[i]'(by omega), List.getElem?_eq_getElem _⟩
    obtain ⟨d, hd, tr⟩ := hT.at hro
    rw [List.getElem?_map, hx] at hd
    cases hd
    obtain ⟨b2, cells, rfl, hS2, hT2⟩ := tr.toTup
    have lc := hT2.len
    rw [List.length_map] at lc
    obtain ⟨ce, hce⟩ : ∃ ce, cells[j]? = some ce := ⟨cells[j]'(by omega), List.getElem?_eq_getElem _⟩
    obtain ⟨d, hd, tc⟩ := hT2.at hce
    rw [List.getElem?_map, hy] at hd
    cases hd
    obtain ⟨c, rfl, hc⟩ := tc.toInts
    refine ⟨.ref a, rfl, a, C, dx, _, _, rfl, h1, T.cl, T.nB, lf_bars _ _ _, .int i, rfl, b, rows, i, .ref b2, rfl, rfl, hS, atI_nat hro, ?_⟩
    refine ⟨.int j, rfl, b2, cells, j, .ref c, rfl, rfl, hS2, atI_nat hce, q c ?_⟩
    rw [nV_eq]
    exact hc
/-! ### one == other -/
def spEq (K : PySem.W.Frag) (C : Addr) : Sp := fun vs H Q _ => ∃ (a b : Addr) (ws us : List (List Int)), vs = [.ref a, .ref b] ∧ LineAt K C H a ws ∧ LineAt K C H b us ∧ Q (.bl (decide (ws = us))) H
theorem ok_eq {f C : Addr} {fd : FuncData} {k : Nat} (F : Fun K "__eq__" "Line.__eq__" s_Line_eq f fd) (T : LC K mg C) (I : LI K C) (m1 : mg "isinstance" = none) :
    FnOk P w K mg base CX0 (k + 1) f fd ["self", "other"] (spEq K C) := by
  refine F.ok sc_Line_eq (fun vs H Q E h => ?_) (fun cdv A outer s H vs Q E hr h => ?_)
  · obtain ⟨a, b, ws, us, rfl, _⟩ := h; rfl
  · obtain ⟨a, b, ws, us, rfl, hL, hR, q⟩ := h
    have hu := hr.units
    refine ⟨_, pss_one (ps_ret (pe_and (pe_callB call_isi (by rfl) m1 (by decide +kernel) (pa_cons (pv 1) (pa_cons (pe_glob (v := .ref C) (by rfl) T.mgC rfl) pa_nil)))
      (pe_one (pe_cmpR (op_eqD hu) (pe_fld (pv 0) rfl) (pe_fld (pv 1) rfl) (nomark _))))), ?_⟩
    refine ⟨.ref b, rfl, .ref b, .ref C, .ref C, .ref C, true, rfl, .own C, isLine T.cl I hR, I.kit, ?_⟩
    obtain ⟨dx, t, b1, r, h1, h2, h3, h4, h5⟩ := hL
    obtain ⟨dx', t', b1', r', h1', h2', h3', h4', h5'⟩ := hR
    refine ⟨true, rfl, iteT ?_⟩
    refine ⟨.ref a, rfl, a, C, dx, _, _, rfl, h1, T.cl, T.nW, lf_works _ _ _, .ref b, rfl, b, C, dx', _, _, rfl, h1', T.cl, T.nW, lf_works _ _ _, _, _, h2.dp, h2'.dp, shaped_tDs _, shaped_tDs _, ?_⟩
    rw [show PyData.eqv (.tuple (tDs ws)) (.tuple (tDs us)) = decide (ws = us) from by rw [PyData.eqv, eqv_tDs]]
    exact q
end
end Sg
set_option Elab.async false
set_option linter.all false
set_option maxRecDepth 100000
set_option maxHeartbeats 4000000
namespace Sg
open PySem PySem.Spec PyProof.Rows L2 StX
section
variable {P : Program} {w : World} {K : PySem.W.Frag} {mg : Str → Option Value} {base : Heap}
theorem GoodL.plus {ws us : List (List Int)} (h : GoodL ws) (g : GoodL us) (hl : ws.length + us.length ≤ 3) : GoodL (ws ++ us) := by
  refine ⟨by have := h.least; rw [List.length_append]; omega, by rw [List.length_append]; exact hl, fun w hw => ?_⟩
  rcases List.mem_append.mp hw with z | z
  · exact h.work w z
  · exact g.work w z
theorem GoodL.less {ws : List (List Int)} (h : GoodL ws) {i : Nat} (hi : i < ws.length) (h2 : 2 ≤ ws.length) : GoodL (ws.take i ++ ws.drop (i + 1)) := by
  have := h.few
  refine ⟨by rw [List.length_append, List.length_take, List.length_drop]; omega, by rw [List.length_append, List.length_take, List.length_drop]; omega, fun w hw => ?_⟩
  rcases List.mem_append.mp hw with z | z
  · exact h.work w (List.mem_of_mem_take z)
  · exact h.work w (List.mem_of_mem_drop z)
/-! ### one + other -/
def spAdd (K : PySem.W.Frag) (C : Addr) : Sp := fun vs H Q _ => ∃ (a b : Addr) (ws us : List (List Int)), vs = [.ref a, .ref b] ∧ LineAt K C H a ws ∧ LineAt K C H b us ∧ ws.length + us.length ≤ 3 ∧
  ∀ H' x, Same H H' → H x = none → LineAt K C H' x (ws ++ us) → Q (.ref x) H'
theorem ok_add {f f1 C : Addr} {fd : FuncData} {k : Nat} (F : Fun K "__add__" "Line.__add__" s_Line_add f fd) (T : LC K mg C) (I : LI K C) (M : Mk K C f1) (G : FnR P w K mg base CX0 k f1 (spInit K C)) (m1 : mg "isinstance" = none) :
    FnOk P w K mg base CX0 (k + 2) f fd ["self", "other"] (spAdd K C) := by
  refine F.ok sc_Line_add (fun vs H Q E h => ?_) (fun cdv A outer s H vs Q E hr h => ?_)
  · obtain ⟨a, b, ws, us, rfl, _⟩ := h; rfl
  · obtain ⟨a, b, ws, us, rfl, hL, hR, hl, q⟩ := h
    refine ⟨_, pss_cons (ps_if (pt_not (pt_val (pe_callB call_isi (by rfl) m1 (by decide +kernel) (pa_cons (pv 1) (pa_cons (pe_glob (v := .ref C) (by rfl) T.mgC rfl) pa_nil))))) (pss_one ps_never) pss_nil)
      (pss_cons (ps_set (i := 2) sc_Line_add.nd rfl (Or.inl rfl) (pe_op op_catA (pe_fld (pv 0) rfl) (pe_fld (pv 1) rfl)))
      (pss_one (ps_ret (pe_makeS M G hr (by rfl) T.mgC pass0 (pv 2))))), ?_⟩
    refine ⟨.ref b, rfl, .ref b, .ref C, .ref C, .ref C, true, rfl, .own C, isLine T.cl I hR, I.kit, true, rfl, iteF ?_⟩
    obtain ⟨dx, t, b1, r, h1, h2, h3, h4, h5⟩ := id hL
    obtain ⟨dx', t', b1', r', h1', h2', h3', h4', h5'⟩ := id hR
    obtain ⟨_, xs, e, hS, hT⟩ := h2.toTup
    cases e
    obtain ⟨_, ys, e, hS', hT'⟩ := h2'.toTup
    cases e
    have l1 := hT.len
    have l2 := hT'.len
    rw [List.length_map] at l1 l2
    have p1 := h5.least
    have p2 := h5'.least
    refine ⟨.ref a, rfl, a, C, dx, _, _, rfl, h1, T.cl, T.nW, lf_works _ _ _, .ref b, rfl, b, C, dx', _, _, rfl, h1', T.cl, T.nW, lf_works _ _ _, t, t', xs, ys, rfl, rfl, hS, hS', Nat.le_of_lt (small1000 (by omega)),
      (fun z => ?_), (fun _ z => ?_), (fun _ _ p np => ?_)⟩
    · rw [z] at l1; rw [← l1] at p1; exact absurd p1 (by decide)
    · rw [z] at l2; rw [← l2] at p2; exact absurd p2 (by decide)
    · refine ⟨.ref p, rfl, p, xs ++ ys, rfl, .inl (.of upd_same), ?_⟩
      have st : St K H (upd H p (.tup (xs ++ ys))) := .of (same_new np)
      refine make_line (ws := ws ++ us) ?_ (h5.plus h5' hl) (fun H' x e3 nx hLx => ?_)
      · have z := (hT.stay st).add (hT'.stay st)
        rw [← List.map_append] at z
        exact z
      · exact q H' x ((same_new np).trans e3) (Same.free (same_new np) nx) hLx
/-! ### line - kind -/
def spSub (K : PySem.W.Frag) (C : Addr) : Sp := fun vs H Q _ => ∃ (a : Addr) (ws : List (List Int)) (i : Nat), vs = [.ref a, .int i] ∧ LineAt K C H a ws ∧ i < ws.length ∧ 2 ≤ ws.length ∧
  ∀ H' x, Same H H' → H x = none → LineAt K C H' x (ws.take i ++ ws.drop (i + 1)) → Q (.ref x) H'
theorem ok_sub {f f1 f2 C : Addr} {fd fd2 : FuncData} {k : Nat} (F : Fun K "__sub__" "Line.__sub__" s_Line_sub f fd) (T : LC K mg C) (M : Mk K C f1) (G : FnR P w K mg base CX0 k f1 (spInit K C))
    (G2 : FnOk P w K mg base CX0 k f2 fd2 ["line", "thing"] (spReqKind K C)) (kp2 : PySem.W.keepIn K (.ref f2) = true) (b2 : Binds K fd2 ["line", "thing"] []) (g2 : mg "require_kind" = some (.ref f2)) (m1 : mg "len" = none) :
    FnOk P w K mg base CX0 (k + 2) f fd ["self", "other"] (spSub K C) := by
  refine F.ok sc_Line_sub (fun vs H Q E h => ?_) (fun cdv A outer s H vs Q E hr h => ?_)
  · obtain ⟨a, ws, i, rfl, _⟩ := h; rfl
  · obtain ⟨a, ws, i, rfl, hL, hi, h2w, q⟩ := h
    refine ⟨_, pss_cons (ps_expr (pe_call G2 (hr.mono (Nat.le_succ k)) (by rfl) g2 kp2 b2 .nil pass0 (pa_cons (pv 0) (pa_cons (pv 1) pa_nil))))
      (pss_cons (ps_if (pt_cmpR op_eq (pe_callB call_len_seq (by rfl) m1 PySem.boot_len (pa_cons (pe_fld (pv 0) rfl) pa_nil)) pe_int (nomark _)) (pss_one ps_never) pss_nil)
      (pss_cons (ps_set (i := 2) sc_Line_sub.nd rfl (Or.inl rfl) (pe_op op_catA (pe_slice sl_tup (pe_fld (pv 0) rfl) po_none (po_some (pv 1))) (pe_slice sl_tup (pe_fld (pv 0) rfl) (po_some (pe_op op_add (pv 1) pe_int)) po_none)))
      (pss_one (ps_ret (pe_makeS M G hr (by rfl) T.mgC pass0 (pv 2)))))), ?_⟩
    refine ⟨.ref a, rfl, .int i, rfl, a, ws, i, rfl, hL, hi, ?_⟩
    obtain ⟨dx, t, b1, r, h1, h2, h3, h4, h5⟩ := id hL
    obtain ⟨_, xs, e, hS, hT⟩ := h2.toTup
    cases e
    have l1 := hT.len
    rw [List.length_map] at l1
    have few := h5.few
    refine ⟨.ref a, rfl, a, C, dx, _, _, rfl, h1, T.cl, T.nW, lf_works _ _ _, t, xs, rfl, .inr hS, rfl, ?_⟩
    have c1 : decide (V.int ((xs.length : Nat) : Int) = V.int 1) = false := decide_eq_false fun z => by have := V.int.inj z; omega
    rw [c1]
    refine ⟨false, rfl, iteF ?_⟩
    have w1 : ¬ (HT.sIx xs.length 0 none = 0 ∧ HT.sIx xs.length xs.length (some (i : Int)) = xs.length) := by
      rintro ⟨_, z⟩
      rw [HT.sIx_nat] at z
      omega
    refine ⟨.ref a, rfl, a, C, dx, _, _, rfl, h1, T.cl, T.nW, lf_works _ _ _, .int i, rfl, i, rfl, t, xs, rfl, hS, w1, fun p np => ?_⟩
    have s1 : Same H (upd H p (.tup (cutV xs none (some (i : Int))))) := same_new np
    have e1 : ((i : Int) + 1) = ((i + 1 : Nat) : Int) := by omega
    have w2 : ¬ (HT.sIx xs.length 0 (some ((i : Int) + 1)) = 0 ∧ HT.sIx xs.length xs.length none = xs.length) := by
      rintro ⟨z, _⟩
      rw [e1, HT.sIx_nat] at z
      omega
    have hp1 : (upd H p (.tup (cutV xs none (some (i : Int))))) p = some (.tup (xs.take i)) := by rw [upd_same, cut_upto]
    generalize hH1 : upd H p (.tup (cutV xs none (some (i : Int)))) = H1 at s1 hp1 ⊢
    refine ⟨.ref a, rfl, a, C, dx, _, _, rfl, s1 _ _ h1, T.cl, T.nW, lf_works _ _ _, .int i, rfl, i, 1, rfl, rfl, (i : Int) + 1, rfl, t, xs, rfl, Same.tup s1 hS, w2, fun p2 np2 => ?_⟩
    have s2 : Same H1 (upd H1 p2 (.tup (cutV xs (some ((i : Int) + 1)) none))) := same_new np2
    have hp2 : (upd H1 p2 (.tup (cutV xs (some ((i : Int) + 1)) none))) p2 = some (.tup (xs.drop (i + 1))) := by rw [upd_same, e1, cut_from]
    generalize hH2 : upd H1 p2 (.tup (cutV xs (some ((i : Int) + 1)) none)) = H2 at s2 hp2 ⊢
    have hp1' := s2 _ _ hp1
    have s12 := s1.trans s2
    have tt : TpAll K H (xs.take i ++ xs.drop (i + 1)) (tDs (ws.take i ++ ws.drop (i + 1))) := by
      have z := (hT.cut i).add (hT.off (i + 1))
      rw [← List.map_take, ← List.map_drop, ← List.map_append] at z
      exact z
    have fin : ∀ (H3 : Hp) (l : Addr), Same H H3 → SqT K H3 l (xs.take i ++ xs.drop (i + 1)) →
        ∃ a' xs', V.ref l = V.ref a' ∧ (SqT K H3 a' xs' ∨ SqL K H3 a' xs') ∧ ∀ z dz, H3 z = none → H3 dz = none → dz ≠ z → spInit K C (V.ref z :: xs') (upd (upd H3 dz (.own z)) z (.ins C dz [])) (fun v H2 => v = .non ∧ Q (.ref z) H2) E0 := by
      intro H3 l e3 hl
      refine ⟨l, _, rfl, .inl hl, make_line (ws := ws.take i ++ ws.drop (i + 1)) (tt.stay (.of e3)) (h5.less hi h2w) fun H' x e4 nx hLx => q H' x (e3.trans e4) (Same.free e3 nx) hLx⟩
    have len2 : (xs.take i).length + (xs.drop (i + 1)).length ≤ sizeLine := by
      rw [List.length_take, List.length_drop]
      exact Nat.le_of_lt (small1000 (by omega))
    refine ⟨p, p2, _, _, rfl, rfl, .of hp1', .of hp2, len2, (fun z => ?_), (fun _ z => ?_), (fun _ _ p3 np3 => ?_)⟩
    · refine ⟨.ref p2, rfl, fin H2 p2 s12 ?_⟩
      rw [z, List.nil_append]
      exact .of hp2
    · refine ⟨.ref p, rfl, fin H2 p s12 ?_⟩
      rw [z, List.append_nil]
      exact .of hp1'
    · exact ⟨.ref p3, rfl, fin _ p3 (s12.trans (same_new np3)) (.of upd_same)⟩
/-! ### -line -/
def spNeg (K : PySem.W.Frag) (C : Addr) : Sp := fun vs H Q _ => ∃ (a : Addr) (ws : List (List Int)), vs = [.ref a] ∧ LineAt K C H a ws ∧
  ∀ H' x, Same H H' → H x = none → LineAt K C H' x (ws.map List.reverse) → Q (.ref x) H'
theorem ok_neg {f f1 C : Addr} {fd : FuncData} {k : Nat} (F : Fun K "__neg__" "Line.__neg__" s_Line_neg f fd) (T : LC K mg C) (M : Mk K C f1) (G : FnR P w K mg base CX0 k f1 (spInit K C)) :
    FnOk P w K mg base CX0 (k + 2) f fd ["self"] (spNeg K C) := by
  refine F.ok sc_Line_neg (fun vs H Q E h => ?_) (fun cdv A outer s H vs Q E hr h => ?_)
  · obtain ⟨a, ws, rfl, _⟩ := h; rfl
  · obtain ⟨a, ws, rfl, hL, q⟩ := h
    refine ⟨_, pss_cons (ps_setLc (i := 1) (own := [("work", 2)]) (g := gName 2) (tt := tYes) rfl sc_Line_neg.nd rfl rfl (sw_true rfl rfl rfl (by decide +kernel)) (pi_tup (pe_fld (pv 0) rfl))
          (blkOk_by (N := ["self", "works", "work"]) (sc := defScope s_Line_neg) (by decide +kernel))
          (fun _ _ _ _ _ => pg_name (i := 2) sc_Line_neg.nd rfl (Or.inl rfl)) (fun _ _ _ _ _ => pts_nil) (fun _ _ _ _ _ => pe_revT (K := K) rfl (pv 2)))
      (pss_one (ps_ret (pe_makeS M G hr (by rfl) T.mgC pass0 (pv 1)))), ?_⟩
    obtain ⟨dx, t, b1, r, h1, h2, h3, h4, h5⟩ := id hL
    obtain ⟨_, xs, e, hS, hT⟩ := h2.toTup
    cases e
    have l1 := hT.len
    rw [List.length_map] at l1
    have few := h5.few
    have lz : (tDs (ws.map List.reverse)).length ≤ 1000 := by rw [List.length_map, List.length_map]; omega
    refine ⟨.ref a, rfl, a, C, dx, _, _, rfl, h1, T.cl, T.nW, lf_works _ _ _, t, rfl, ⟨_, hS⟩, fun D hD => ?_⟩
    refine lc_tup (xs := xs) (fun i H' => Grow K H D (tDs (ws.map List.reverse)) i H') (.zero hD) (fun i H' _ h => Same.tup h.1 hS) (fun i x H' hx h => ?_) (fun H' h => ?_)
    · obtain ⟨o, c1, ho, rfl, hc1⟩ := hT.works hx
      refine ⟨rfl, .ref c1, rfl, c1, _, rfl, Same.tup h.1 hc1, fun p np => ?_⟩
      refine h.next hD lz (same_new np) (d := tD o.reverse) (by rw [List.getElem?_map, List.getElem?_map, ho]; rfl) (.ofInts ?_)
      rw [List.map_reverse]
      exact .of upd_same
    · obtain ⟨e2, acc, g1, g2⟩ := h.done (by rw [List.length_map, List.length_map, l1])
      exact ⟨.ref D, rfl, D, acc, rfl, .inr (.of g1), make_line (ws := ws.map List.reverse) g2 h5.back fun H3 x e3 nx hLx => q H3 x (e2.trans e3) (Same.free e2 nx) hLx⟩
end
end Sg
set_option Elab.async false
set_option linter.all false
set_option maxRecDepth 100000
set_option maxHeartbeats 4000000
namespace Sg
open PySem PySem.Spec PyProof.Rows L2 StX
/-- what a class has under a name: a def that keeps sp -/
structure Has (P : Program) (w : World) (K : PySem.W.Frag) (mg : Str → Option Value) (base : Heap) (k : Nat) (C : Addr) (n : Str) (f : Addr) (fd : FuncData) (ps : List Str) (sp : Sp) : Prop where
  ok : FnOk P w K mg base CX0 k f fd ps sp
  bi : Binds K fd ps []
  at_ : PySem.W.findIn K (.ref C) n = some (some (.ref f))
  fn : PySem.W.isFn K (.ref f) = true
/-- what the operators ask of the class beside their defs -/
structure Ops (K : PySem.W.Frag) (C : Addr) : Prop where
  sf : PySem.W.selfFirst K C = true
  rs : ∃ rc, PySem.W.findIn K (.ref C) "__rsub__" = some rc ∧ (rc = none ∨ ∃ g : Addr, rc = some (.ref g))
  is : ∃ fo, PySem.W.findIn K (.type "int") "__sub__" = some fo
  ir : ∃ ro, PySem.W.findIn K (.type "int") "__rsub__" = some ro
  nsub : PySem.W.subIn K (.type "int") (.ref C) = some false
  ne : PySem.W.findIn K (.ref C) "__ne__" = some (some (.builtin "object.__ne__"))
  ob : PySem.W.subIn K (.ref C) (.type "object") = some true
/-- Line's methods, as they are promised -/
structure Meths (P : Program) (w : World) (K : PySem.W.Frag) (mg : Str → Option Value) (base : Heap) (k : Nat) (C : Addr) : Prop where
  lc : LC K mg C
  li : LI K C
  op : Ops K C
  len : ∃ f fd, Has P w K mg base k C "__len__" f fd ["self"] (spLen K C)
  call : ∃ f fd, Has P w K mg base k C "__call__" f fd ["self", "one", "other"] (spCall K C) ∧ PySem.W.fnIn K f = true
  add : ∃ f fd, Has P w K mg base k C "__add__" f fd ["self", "other"] (spAdd K C)
  sub : ∃ f fd, Has P w K mg base k C "__sub__" f fd ["self", "other"] (spSub K C)
  neg : ∃ f fd, Has P w K mg base k C "__neg__" f fd ["self"] (spNeg K C)
  eq : ∃ f fd, Has P w K mg base k C "__eq__" f fd ["self", "other"] (spEq K C)
  works : ∃ p g fd, PropOf K C "works" p g ∧ FnOk P w K mg base CX0 k g fd ["self"] (getSp C "_works") ∧ Binds K fd ["self"] []
  init : ∃ f, Mk K C f ∧ FnR P w K mg base CX0 k f (spInit K C)
section
variable {X : Cx} {k : Nat} {C : Addr}
theorem Meths.cLen (M : Meths X.prog X.w X.K X.mg X.base k C) (hr : Room (k + 2) X.A) : CallR X (.builtin "len") (fun xs H Q => ∃ a ws, xs = [.ref a] ∧ LineAt X.K C H a ws ∧ Q (.int (ws.length : Nat)) H) := by
  obtain ⟨f, fd, h⟩ := M.len
  intro pins s σ H xs us Q I r q
  obtain ⟨a, ws, rfl, hL, q⟩ := q
  refine call_lenO h.ok (hr.mono (Nat.le_succ _)) h.bi h.at_ h.fn pins s σ H _ us Q I r ⟨a, rfl, hL.ins, a, ws, rfl, hL, ws.length, rfl, ?_, q⟩
  have := hL.good.few
  omega
def tCallL (K : PySem.W.Frag) (C : Addr) (tf : TE) (t : TA) : TE := fun σ H Q => tf σ H fun y H1 => ∃ a, y = V.ref a ∧ t σ H1 fun vs H2 => ∃ ws, ∃ i j : Nat, ∃ x y, vs = [.int i, .int j] ∧ LineAt K C H2 a ws ∧ ws[i]? = some x ∧ ws[j]? = some y ∧
  ∀ c, SqT K H2 c (nV (barsN x y)) → Q (.ref c) H2
theorem Meths.pCall {K : PySem.W.Frag} {fe e : Expr} {es : List Expr} {tf : TE} {t : TA} {pos : Pos} (M : Meths X.prog X.w K X.mg X.base k C) (hK : X.K = K) (hr : Room (k + 2) X.A) (hf : PE X fe tf) (ha : PA X (e :: es) t)
    (ht : eval (.Call fe (e :: es) [] pos) X.env = (do callWith pos (← eval fe X.env) [] (backTo pos (starEach (e :: es) X.env)) (backToKw pos (keywordEach [] X.env))) := by rfl)
    (he : starEach (e :: es) X.env = (false, eval e X.env) :: starEach es X.env := by rfl) (hpl : (backTo pos (starEach es X.env)).any (·.1) = false := by rfl) :
    PE X (.Call fe (e :: es) [] pos) (tCallL K C tf t) := by
  subst hK
  obtain ⟨g, fd, h, hg⟩ := M.call
  have c : CallO X.K C g := ⟨h.at_, h.fn, hg⟩
  refine ⟨fun pins s σ H Q I h' => Call_ (thn (hf.run pins s σ H _ I h') fun u s1 ⟨y, H1, I1, ry, a, ey, q⟩ => ?_) ht⟩
  subst ey
  obtain rfl : u = Value.ref a := ry
  refine callO_with (thn (ha.run pos pins s1 σ H1 _ I1 q) fun us s2 ⟨vs, H2, I2, r, ws, i, j, x, y, ev, hL, hx, hy, q2⟩ => ?_) he hpl
  subst ev
  have hi' : InsC X H2 a C := .inr hL.ins
  obtain ⟨ox, od, J, hd⟩ := insC_at I2 hi'
  exact ⟨⟨C, ox, od, J, hd⟩, run_callO c (fnR_of h.ok h.bi) (hr.mono (Nat.le_add_right _ _)) pass0 I2 hi' r ⟨a, ws, i, j, x, y, rfl, hL, hx, hy, q2⟩⟩
end
end Sg
set_option Elab.async false
set_option linter.all false
set_option maxRecDepth 100000
set_option maxHeartbeats 4000000
namespace Sg
open PySem PySem.Spec PyProof.Rows L2 StX
/-! ## plans -/
abbrev startD (s : Int × Nat) : PyData := .tuple [.int s.1, .int s.2]
abbrev planD (ps : List (Int × Nat)) : List PyData := ps.map startD
/-- the least tick that may follow the first i starts -/
def leastAt (ps : List (Int × Nat)) (i : Nat) : Int := match ps[i - 1]? with
  | none => 0
  | some s => if i = 0 then 0 else s.1 + 1
theorem leastAt_zero (ps : List (Int × Nat)) : leastAt ps 0 = 0 := by
  unfold leastAt
  split <;> rfl
theorem leastAt_succ {ps : List (Int × Nat)} {i : Nat} {s : Int × Nat} (h : ps[i]? = some s) : leastAt ps (i + 1) = s.1 + 1 := by
  unfold leastAt
  rw [Nat.add_sub_cancel, h]
  show (if i + 1 = 0 then (0 : Int) else s.1 + 1) = s.1 + 1
  rw [if_neg (Nat.succ_ne_zero i)]
/-- a plan of a line of n works -/
structure GoodP (n : Nat) (ps : List (Int × Nat)) : Prop where
  few : ps.length ≤ 60
  kinds : ∀ s ∈ ps, s.2 < n
  asc : ∀ (i : Nat) (s : Int × Nat), ps[i]? = some s → leastAt ps i ≤ s.1
section
variable {P : Program} {w : World} {K : PySem.W.Frag} {mg : Str → Option Value} {base : Heap}
def spReqLine (K : PySem.W.Frag) (C : Addr) : Sp := fun vs H Q _ => ∃ (a : Addr) (ws : List (List Int)), vs = [.ref a] ∧ LineAt K C H a ws ∧ Q .non H
theorem ok_require_line {f C : Addr} {fd : FuncData} {k : Nat} (F : Fun K "require_line" "require_line" s_require_line f fd) (T : LC K mg C) (I : LI K C) (m1 : mg "isinstance" = none) :
    FnOk P w K mg base CX0 (k + 1) f fd ["thing"] (spReqLine K C) := by
  refine F.ok sc_require_line (fun vs H Q E h => ?_) (fun cdv A outer s H vs Q E hr h => ?_)
  · obtain ⟨a, ws, rfl, _⟩ := h; rfl
  · obtain ⟨a, ws, rfl, hL, q⟩ := h
    refine ⟨_, pss_one (ps_if (pt_not (pt_val (pe_callB call_isi (by rfl) m1 (by decide +kernel) (pa_cons (pv 0) (pa_cons (pe_glob (v := .ref C) (by rfl) T.mgC rfl) pa_nil))))) (pss_one ps_never) pss_nil), ?_⟩
    exact ⟨.ref a, rfl, .ref a, .ref C, .ref C, .ref C, true, rfl, .own C, isLine T.cl I hL, I.kit, true, rfl, iteF q⟩
/-! ### _is_start, of a start -/
def spStart (K : PySem.W.Frag) (C : Addr) : Sp := fun vs H Q _ => ∃ (a b : Addr) (ws : List (List Int)) (t l : Int) (k : Nat), vs = [.ref a, .ref b, .int l] ∧ LineAt K C H a ws ∧ SqT K H b [.int t, .int k] ∧ l ≤ t ∧ k < ws.length ∧ Q (.bl true) H
theorem ok_is_start {f f1 f2 C : Addr} {fd fd1 fd2 : FuncData} {k : Nat} (F : Fun K "_is_start" "_is_start" s_is_start f fd)
    (G1 : FnOk P w K mg base CX0 k f1 fd1 ["thing"] spIsInt) (kp1 : PySem.W.keepIn K (.ref f1) = true) (b1 : Binds K fd1 ["thing"] []) (g1 : mg "is_int" = some (.ref f1))
    (G2 : FnOk P w K mg base CX0 k f2 fd2 ["line", "thing"] (spIsKind K C)) (kp2 : PySem.W.keepIn K (.ref f2) = true) (b2 : Binds K fd2 ["line", "thing"] []) (g2 : mg "is_kind" = some (.ref f2))
    (m1 : mg "isinstance" = none) (m2 : mg "tuple" = none) (m3 : mg "len" = none) : FnOk P w K mg base CX0 (k + 1) f fd ["line", "thing", "least"] (spStart K C) := by
  refine F.ok sc_is_start (fun vs H Q E h => ?_) (fun cdv A outer s H vs Q E hr h => ?_)
  · obtain ⟨a, b, ws, t, l, k, rfl, _⟩ := h; rfl
  · obtain ⟨a, b, ws, t, l, i, rfl, hL, hS, hl, hi, q⟩ := h
    refine ⟨_, pss_cons (ps_if (PW.pt (pw_or (pt_not (pt_val (pe_callB call_isi (by rfl) m1 (by decide +kernel) (pa_cons (pv 1) (pa_cons (pe_bltn (v := .ty "tuple") (by rfl) m2 (by decide +kernel) rfl) pa_nil)))))
        (pw_or1 (pt_cmpR op_ne (pe_callB call_len_seq (by rfl) m3 PySem.boot_len (pa_cons (pv 1) pa_nil)) pe_int (nomark _))))) (pss_one (ps_ret pe_bl)) pss_nil)
      (pss_one (ps_ret (pe_and (pe_call G1 hr (by rfl) g1 kp1 b1 .nil pass0 (pa_cons (pe_ix ix_tup (pv 1) pe_int (fun _ _ => rfl)) pa_nil))
        (pe_and (pe_cmpR op_ge (pe_ix ix_tup (pv 1) pe_int (fun _ _ => rfl)) (pv 2) (nomark _))
          (pe_one (pe_call G2 hr (by rfl) g2 kp2 b2 .nil pass0 (pa_cons (pv 0) (pa_cons (pe_ix ix_tup (pv 1) pe_int (fun _ _ => rfl)) pa_nil)))))))), ?_⟩
    refine ⟨.ref b, rfl, .ref b, .ty "tuple", _, _, true, rfl, .ty _, tyT hS, kit_ty (by decide +kernel), true, rfl, iteF ?_⟩
    refine ⟨.ref b, rfl, b, _, rfl, .inr hS, rfl, ?_⟩
    rw [show decide (V.int (([V.int t, V.int (i : Nat)].length : Nat) : Int) = V.int 2) = true from rfl]
    refine ⟨false, rfl, iteF ?_⟩
    refine ⟨.ref b, rfl, b, _, 0, .int t, rfl, rfl, hS, atI0, t, rfl, true, rfl, iteT ?_⟩
    refine ⟨.ref b, rfl, b, _, 0, .int t, rfl, rfl, hS, atI0, .int l, rfl, t, l, rfl, rfl, ?_⟩
    refine ⟨decide (l ≤ t), rfl, ?_⟩
    rw [decide_eq_true hl]
    refine iteT ?_
    refine ⟨.ref a, rfl, .ref b, rfl, b, _, 1, .int (i : Nat), rfl, rfl, hS, atI1, a, ws, i, rfl, hL, ?_⟩
    rw [decide_eq_true (show (0 : Int) ≤ i by omega), decide_eq_true (show (i : Int) ≤ (ws.length : Nat) - 1 by omega)]
    exact q
/-! ### is_plan, of a plan -/
def spIsPlan (K : PySem.W.Frag) (C : Addr) : Sp := fun vs H Q _ => ∃ (a b : Addr) (ws : List (List Int)) (ps : List (Int × Nat)), vs = [.ref a, .ref b] ∧ LineAt K C H a ws ∧ Tp K H (.ref b) (.tuple (planD ps)) ∧ GoodP ws.length ps ∧ Q (.bl true) H
theorem ok_is_plan {f f1 f2 C : Addr} {fd fd1 fd2 : FuncData} {k : Nat} (F : Fun K "is_plan" "is_plan" s_is_plan f fd) (hM : ∃ t, mg "MOST_STARTS" = some (.int 60 t))
    (G1 : FnOk P w K mg base CX0 k f1 fd1 ["thing"] (spReqLine K C)) (kp1 : PySem.W.keepIn K (.ref f1) = true) (b1 : Binds K fd1 ["thing"] []) (g1 : mg "require_line" = some (.ref f1))
    (G2 : FnOk P w K mg base CX0 k f2 fd2 ["line", "thing", "least"] (spStart K C)) (kp2 : PySem.W.keepIn K (.ref f2) = true) (b2 : Binds K fd2 ["line", "thing", "least"] []) (g2 : mg "_is_start" = some (.ref f2))
    (m1 : mg "isinstance" = none) (m2 : mg "tuple" = none) (m3 : mg "len" = none) : FnOk P w K mg base CX0 (k + 1) f fd ["line", "thing"] (spIsPlan K C) := by
  obtain ⟨tM, nM⟩ := hM
  refine F.ok sc_is_plan (fun vs H Q E h => ?_) (fun cdv A outer s H vs Q E hr h => ?_)
  · obtain ⟨a, b, ws, ps, rfl, _⟩ := h; rfl
  · obtain ⟨a, b, ws, ps, rfl, hL, hP, hg, q⟩ := h
    refine ⟨_, pss_cons (ps_expr (pe_call G1 hr (by rfl) g1 kp1 b1 .nil pass0 (pa_cons (pv 0) pa_nil)))
      (pss_cons (ps_if (PW.pt (pw_or (pt_not (pt_val (pe_callB call_isi (by rfl) m1 (by decide +kernel) (pa_cons (pv 1) (pa_cons (pe_bltn (v := .ty "tuple") (by rfl) m2 (by decide +kernel) rfl) pa_nil)))))
        (pw_or1 (pt_cmpR op_gt (pe_callB call_len_seq (by rfl) m3 PySem.boot_len (pa_cons (pv 1) pa_nil)) (pe_glob (v := .int 60) (by rfl) nM ⟨_, rfl⟩) (nomark _))))) (pss_one (ps_ret pe_bl)) pss_nil)
      (pss_cons (ps_set (i := 2) sc_is_plan.nd rfl (.inl rfl) pe_int)
      (pss_cons (ps_for PassesOwn.never rfl (pi_tup (pv 1)) (pg_name (i := 3) sc_is_plan.nd rfl (.inl rfl))
        (pss_cons (ps_if (pt_not (pt_val (pe_call G2 hr (by rfl) g2 kp2 b2 .nil pass0 (pa_cons (pv 0) (pa_cons (pv 3) (pa_cons (pv 2) pa_nil)))))) (pss_one (ps_ret pe_bl)) pss_nil)
        (pss_one (ps_set (i := 2) sc_is_plan.nd rfl (.inl rfl) (pe_op op_add (pe_ix ix_tup (pv 3) pe_int (fun _ _ => rfl)) pe_int)))))
      (pss_one (ps_ret pe_bl))))), ?_⟩
    obtain ⟨_, xs, e, hS, hT⟩ := hP.toTup
    cases e
    have lx := hT.len
    rw [List.length_map] at lx
    have few := hg.few
    refine ⟨.ref a, rfl, a, ws, rfl, hL, ?_⟩
    refine ⟨.ref b, rfl, .ref b, .ty "tuple", _, _, true, rfl, .ty _, tyT hS, kit_ty (by decide +kernel), true, rfl, iteF ?_⟩
    refine ⟨.ref b, rfl, b, xs, rfl, .inr hS, _, 60, rfl, rfl, _, rfl, ?_⟩
    rw [show decide (((xs.length : Nat) : Int) > 60) = false from decide_eq_false (by omega)]
    refine iteF ?_
    refine ⟨.ref b, rfl, b, rfl, ⟨_, hS⟩, ?_⟩
    refine for_tup (xs := xs) (fun i σ H' => ∃ v3, σ = [some (.ref a), some (.ref b), some (.int (leastAt ps i)), v3] ∧ H' = H) ⟨none, by rw [leastAt_zero]; rfl, rfl⟩ (fun i σ H' _ h => by obtain ⟨_, _, rfl⟩ := h; exact hS) ?_ ?_
    · rintro i x σ H' hx ⟨v3, rfl, rfl⟩
      obtain ⟨d, hd, t⟩ := hT.at hx
      rw [List.getElem?_map] at hd
      obtain ⟨s, hs, rfl⟩ := Option.map_eq_some_iff.mp hd
      obtain ⟨c, cs, rfl, hc, ht⟩ := t.toTup
      obtain ⟨u, v, rfl⟩ : ∃ u v, cs = [u, v] := by
        have := ht.len
        match cs, this with
        | [u, v], _ => exact ⟨u, v, rfl⟩
      cases ht with
      | on t1 r =>
        cases r with
        | on t2 r2 =>
          cases t1
          cases t2
          refine ⟨.ref a, rfl, .ref c, rfl, .int (leastAt ps i), rfl, a, c, ws, s.1, leastAt ps i, s.2, rfl, hL, hc, hg.asc i s hs, hg.kinds s (List.mem_of_getElem? hs), true, rfl, iteF ?_⟩
          refine ⟨.ref c, rfl, c, _, 0, .int s.1, rfl, rfl, hc, atI0, s.1, 1, rfl, rfl, ?_⟩
          refine ⟨some (.ref c), ?_, rfl⟩
          rw [leastAt_succ hs]
          rfl
    · rintro σ H' ⟨v3, rfl, rfl⟩
      exact q
/-! ### require_plan, of a plan -/
def spReqPlan (K : PySem.W.Frag) (C : Addr) : Sp := fun vs H Q _ => ∃ (a b : Addr) (ws : List (List Int)) (ps : List (Int × Nat)), vs = [.ref a, .ref b] ∧ LineAt K C H a ws ∧ Tp K H (.ref b) (.tuple (planD ps)) ∧ GoodP ws.length ps ∧ Q .non H
theorem ok_require_plan {f f1 C : Addr} {fd fd1 : FuncData} {k : Nat} (F : Fun K "require_plan" "require_plan" s_require_plan f fd)
    (G1 : FnOk P w K mg base CX0 k f1 fd1 ["line", "thing"] (spIsPlan K C)) (kp1 : PySem.W.keepIn K (.ref f1) = true) (b1 : Binds K fd1 ["line", "thing"] []) (g1 : mg "is_plan" = some (.ref f1)) :
    FnOk P w K mg base CX0 (k + 1) f fd ["line", "thing"] (spReqPlan K C) := by
  refine F.ok sc_require_plan (fun vs H Q E h => ?_) (fun cdv A outer s H vs Q E hr h => ?_)
  · obtain ⟨a, b, ws, ps, rfl, _⟩ := h; rfl
  · obtain ⟨a, b, ws, ps, rfl, hL, hP, hg, q⟩ := h
    refine ⟨_, pss_one (ps_if (pt_not (pt_val (pe_call G1 hr (by rfl) g1 kp1 b1 .nil pass0 (pa_cons (pv 0) (pa_cons (pv 1) pa_nil))))) (pss_one ps_never) pss_nil), ?_⟩
    exact ⟨.ref a, rfl, .ref b, rfl, a, b, ws, ps, rfl, hL, hP, hg, true, rfl, iteF q⟩
end
end Sg
set_option Elab.async false
set_option linter.all false
set_option maxRecDepth 100000
set_option maxHeartbeats 4000000
namespace Sg
open PySem PySem.Spec PyProof.Rows L2 StX
/-- a whole number as it is written -/
def num (i : Int) : Str := toString i
def word (n : Nat) : Str := (("Line(" : Str) ++ num n) ++ (" works)" : Str)
section
variable {P : Program} {w : World} {K : PySem.W.Frag} {mg : Str → Option Value} {base : Heap}
/-! ### line[kind] -/
def spItem (K : PySem.W.Frag) (C : Addr) : Sp := fun vs H Q _ => ∃ (a : Addr) (ws : List (List Int)) (i : Nat) (x : List Int), vs = [.ref a, .int i] ∧ LineAt K C H a ws ∧ ws[i]? = some x ∧ ∀ c, SqT K H c (x.map V.int) → Q (.ref c) H
theorem ok_item {f f1 C : Addr} {fd fd1 : FuncData} {k : Nat} (F : Fun K "__getitem__" "Line.__getitem__" s_Line_getitem f fd) (T : LC K mg C)
    (G1 : FnOk P w K mg base CX0 k f1 fd1 ["line", "thing"] (spReqKind K C)) (kp1 : PySem.W.keepIn K (.ref f1) = true) (b1 : Binds K fd1 ["line", "thing"] []) (g1 : mg "require_kind" = some (.ref f1)) :
    FnOk P w K mg base CX0 (k + 1) f fd ["self", "at"] (spItem K C) := by
  refine F.ok sc_Line_getitem (fun vs H Q E h => ?_) (fun cdv A outer s H vs Q E hr h => ?_)
  · obtain ⟨a, ws, i, x, rfl, _⟩ := h; rfl
  · obtain ⟨a, ws, i, x, rfl, hL, hx, q⟩ := h
    refine ⟨_, pss_cons (ps_expr (pe_call G1 hr (by rfl) g1 kp1 b1 .nil pass0 (pa_cons (pv 0) (pa_cons (pv 1) pa_nil))))
      (pss_one (ps_ret (pe_ix ix_tup (pe_fld (pv 0) rfl) (pv 1) (fun _ _ => rfl)))), ?_⟩
    have hi := (List.getElem?_eq_some_iff.mp hx).1
    refine ⟨.ref a, rfl, .int i, rfl, a, ws, i, rfl, hL, hi, ?_⟩
    obtain ⟨dx, t, b, r, h1, h2, h3, h4, h5⟩ := hL
    obtain ⟨_, xs, e, hS, hT⟩ := h2.toTup
    cases e
    have l := hT.len
    rw [List.length_map] at l
    obtain ⟨y, hy⟩ : ∃ y, xs[i]? = some y := ⟨xs[i]'(by omega), List.getElem?_eq_getElem _⟩
    obtain ⟨x', c, hx', rfl, hc⟩ := hT.works hy
    obtain rfl : x = x' := Option.some.inj (hx.symm.trans hx')
    exact ⟨.ref a, rfl, a, C, dx, _, _, rfl, h1, T.cl, T.nW, lf_works _ _ _, .int i, rfl, t, xs, i, .ref c, rfl, rfl, hS, atI_nat hy, q c hc⟩
/-! ### repr -/
def spRepr (K : PySem.W.Frag) (C : Addr) : Sp := fun vs H Q _ => ∃ (a : Addr) (ws : List (List Int)), vs = [.ref a] ∧ LineAt K C H a ws ∧ Q (.str (word ws.length)) H
theorem word_join (n : Nat) (h1 : 1 ≤ n) (h2 : n ≤ 3) : ((Str.empty ++ ("Line(" : Str)) ++ num n) ++ (" works)" : Str) = word n := by
  have : n = 1 ∨ n = 2 ∨ n = 3 := by omega
  rcases this with rfl | rfl | rfl <;> decide +kernel
theorem num_len (n : Nat) (h1 : 1 ≤ n) (h2 : n ≤ 3) : ((Str.empty ++ ("Line(" : Str)) ++ num n).length ≤ 100 ∧ (((Str.empty ++ ("Line(" : Str)) ++ num n) ++ (" works)" : Str)).length ≤ 100 := by
  have : n = 1 ∨ n = 2 ∨ n = 3 := by omega
  rcases this with rfl | rfl | rfl <;> decide +kernel
theorem log_small (n : Nat) (h2 : n ≤ 3) : ((n : Int)).natAbs.log2 < 1920 := by
  have : n = 0 ∨ n = 1 ∨ n = 2 ∨ n = 3 := by omega
  rcases this with rfl | rfl | rfl | rfl <;> decide +kernel
theorem ok_repr {f C : Addr} {fd : FuncData} {k : Nat} (F : Fun K "__repr__" "Line.__repr__" s_Line_repr f fd) (T : LC K mg C) (m1 : mg "len" = none) :
    FnOk P w K mg base CX0 (k + 1) f fd ["self"] (spRepr K C) := by
  refine F.ok sc_Line_repr (fun vs H Q E h => ?_) (fun cdv A outer s H vs Q E hr h => ?_)
  · obtain ⟨a, ws, rfl, _⟩ := h; rfl
  · obtain ⟨a, ws, rfl, ⟨dx, t, b, r, h1, h2, h3, h4, h5⟩, q⟩ := h
    refine ⟨_, pss_one (ps_ret (pe_joined (.cons pe_str (.cons (pe_fmt (pe_callB call_len_seq (by rfl) m1 PySem.boot_len (pa_cons (pe_fld (pv 0) rfl) pa_nil))) (.cons pe_str .nil))))), ?_⟩
    obtain ⟨t', xs, e, hS, hT⟩ := h2.toTup
    cases e
    have l := hT.len
    rw [List.length_map] at l
    have big : 100 ≤ sizeLine := by rw [sizeLine_eq]; decide
    obtain ⟨z1, z2⟩ := num_len ws.length h5.least h5.few
    refine ⟨_, rfl, Nat.le_trans (by decide +kernel) big, ?_⟩
    refine ⟨.ref a, rfl, a, C, dx, _, _, rfl, h1, T.cl, T.nW, lf_works _ _ _, t, xs, rfl, .inr hS, ?_⟩
    rw [l]
    refine .inr ⟨((ws.length : Nat) : Int), rfl, log_small _ h5.few, ?_⟩
    refine ⟨_, rfl, Nat.le_trans z1 big, ?_⟩
    refine ⟨_, rfl, Nat.le_trans z2 big, ?_⟩
    have e := word_join ws.length h5.least h5.few
    show Q (.str (((Str.empty ++ ("Line(" : Str)) ++ num ws.length) ++ (" works)" : Str))) H
    rw [e]
    exact q
end
/-- the two more -/
structure Meths2 (P : Program) (w : World) (K : PySem.W.Frag) (mg : Str → Option Value) (base : Heap) (k : Nat) (C : Addr) : Prop where
  m : Meths P w K mg base k C
  item : ∃ f fd, Has P w K mg base k C "__getitem__" f fd ["self", "at"] (spItem K C) ∧ PySem.W.fnIn K f = true
  rep : ∃ f fd, Has P w K mg base k C "__repr__" f fd ["self"] (spRepr K C)
section
variable {X : Cx} {k : Nat} {C : Addr}
def tItem (K : PySem.W.Frag) (C : Addr) (ta tb : TE) : TE := fun σ H Q => ta σ H fun y H1 => tb σ H1 fun z H2 => ∃ a ws, ∃ i : Nat, ∃ x, y = .ref a ∧ z = .int i ∧ LineAt K C H2 a ws ∧ ws[i]? = some x ∧ ∀ c, SqT K H2 c (x.map V.int) → Q (.ref c) H2
theorem Meths2.pItem {K : PySem.W.Frag} {a b : Expr} {ta tb : TE} {pos : Pos} (M : Meths2 X.prog X.w K X.mg X.base k C) (hK : X.K = K) (hr : Room (k + 2) X.A) (ha : PE X a ta) (hb : PE X b tb)
    (hsl : ∀ x i, subscripted b true (.ref x) i = runValue (.builtin "lifetime.subscript" ⟨[.ref x, i], []⟩) := by intro _ _; rfl) : PE X (.Subscript a b pos) (tItem K C ta tb) := by
  subst hK
  obtain ⟨f, fd, h, hf⟩ := M.item
  refine ⟨fun pins s σ H Q I h' => Subscript_ (binT ha hb I h' fun v u s2 x y H2 I2 rx ry q => ?_)⟩
  obtain ⟨o, ws, i, z, rfl, rfl, hL, hz, q⟩ := q
  obtain rfl : v = Value.ref o := rx
  obtain ⟨m, hF⟩ := I2.fr
  obtain ⟨_, _, J⟩ := insAt_look I2 hL.ins
  exact PySem.W.sub_K hF I2.ok.mod.kin J h.at_ hf h.fn (run_in1 (us := [.ref o, u]) (vs := [.ref o, .int i]) h.ok (hr.mono (Nat.le_succ _)) h.bi I2 (.cons rfl (.cons ry .nil)) ⟨o, ws, i, z, rfl, hL, hz, q⟩) (hsl _ _)
end
end Sg
set_option Elab.async false
set_option linter.all false
set_option maxRecDepth 100000
set_option maxHeartbeats 4000000
namespace Sg
open PySem PySem.Spec PyProof.Rows L2
/-! ## who is where: a dict from spots to lists of pieces -/
abbrev Spot := Int × Int
def keyS (p : Spot) : List L2.Key := [.inl p.1, .inl p.2]
theorem keyS_inj {p q : Spot} (h : keyS p = keyS q) : p = q := by
  obtain ⟨a, b⟩ := p
  obtain ⟨c, d⟩ := q
  unfold keyS at h
  injection h with h1 h2
  injection h2 with h2 _
  injection h1 with h1
  injection h2 with h2
  simp only at h1 h2
  rw [h1, h2]
/-- a spot, its list's place, its pieces -/
abbrev Grp := Spot × Addr × List Nat
def iV (ns : List Nat) : List V := ns.map fun n => V.int (n : Nat)
def entS (g : Grp) : List L2.Key × V := (keyS g.1, V.ref g.2.1)
abbrev Ev := Spot × Nat
def who (E : List Ev) (p : Spot) : List Nat := (E.filter fun e => decide (e.1 = p)).map (·.2)
theorem who_snoc (E : List Ev) (p q : Spot) (i : Nat) : who (E ++ [(q, i)]) p = who E p ++ (if q = p then [i] else []) := by
  unfold who
  rw [List.filter_append, List.map_append]
  congr 1
  by_cases h : q = p
  · simp [h]
  · simp [h]
/-- the spots, by their first time -/
def firsts (E : List Ev) : List Spot := E.foldl (fun acc e => if e.1 ∈ acc then acc else acc ++ [e.1]) []
theorem firsts_snoc (E : List Ev) (e : Ev) : firsts (E ++ [e]) = if e.1 ∈ firsts E then firsts E else firsts E ++ [e.1] := by
  unfold firsts
  rw [List.foldl_append]
  rfl
structure VisG (gs : List Grp) (E : List Ev) : Prop where
  ord : gs.map (·.1) = firsts E
  told : ∀ g ∈ gs, g.2.2 = who E g.1
  full : ∀ e ∈ E, ∃ g ∈ gs, g.1 = e.1
  keys : (gs.map (·.1)).Nodup
  few : gs.length ≤ E.length
structure VisAt (H0 H : Hp) (d : Addr) (gs : List Grp) : Prop where
  at_ : H d = some (.dT (gs.map entS))
  lists : ∀ g ∈ gs, H g.2.1 = some (.lst (iV g.2.2))
  apart : (gs.map (·.2.1)).Nodup
  fresh : H0 d = none ∧ ∀ g ∈ gs, H0 g.2.1 = none
  old : Same H0 H
theorem who_len (E : List Ev) (p : Spot) : (who E p).length ≤ E.length := by
  unfold who
  rw [List.length_map]
  exact List.length_filter_le _ _
/-! ### a spot is there, or not -/
theorem val_ent (p : Spot) : ∀ gs : List Grp, (∀ v, valV (gs.map entS) (keyS p) = some v → ∃ g ∈ gs, g.1 = p ∧ v = .ref g.2.1) ∧ (valV (gs.map entS) (keyS p) = none → ∀ g ∈ gs, g.1 ≠ p)
  | [] => ⟨fun v h => (nomatch h), fun _ g h => (nomatch h)⟩
  | g :: r => by
    obtain ⟨i1, i2⟩ := val_ent p r
    by_cases h : g.1 = p
    · have e : valV ((g :: r).map entS) (keyS p) = some (.ref g.2.1) := by
        rw [List.map_cons]
        exact valV_pos (by unfold entS; rw [h])
      refine ⟨fun v hv => ?_, fun hn => ?_⟩
      · rw [e] at hv
        exact ⟨g, List.mem_cons_self, h, (Option.some.inj hv).symm⟩
      · rw [e] at hn
        exact nomatch hn
    · have e : valV ((g :: r).map entS) (keyS p) = valV (r.map entS) (keyS p) := by
        rw [List.map_cons]
        exact valV_neg (fun z => h (keyS_inj z))
      rw [e]
      refine ⟨fun v hv => ?_, fun hn x hx => ?_⟩
      · obtain ⟨y, hy, q⟩ := i1 v hv
        exact ⟨y, List.mem_cons_of_mem _ hy, q⟩
      · rcases List.mem_cons.mp hx with rfl | hx
        · exact h
        · exact i2 hn x hx
/-- the piece comes to a list that is there -/
def more (gs : List Grp) (p : Spot) (i : Nat) : List Grp := gs.map fun g => if g.1 = p then (g.1, g.2.1, g.2.2 ++ [i]) else g
theorem more_ent (gs : List Grp) (p : Spot) (i : Nat) : (more gs p i).map entS = gs.map entS := by
  unfold more
  rw [List.map_map]
  refine List.map_congr_left fun g _ => ?_
  show entS (if g.1 = p then _ else g) = entS g
  split <;> rfl
theorem more_fst (gs : List Grp) (p : Spot) (i : Nat) : (more gs p i).map (·.1) = gs.map (·.1) := by
  unfold more
  rw [List.map_map]
  refine List.map_congr_left fun g _ => ?_
  show (if g.1 = p then (g.1, g.2.1, g.2.2 ++ [i]) else g).1 = g.1
  split <;> rfl
theorem more_snd (gs : List Grp) (p : Spot) (i : Nat) : (more gs p i).map (·.2.1) = gs.map (·.2.1) := by
  unfold more
  rw [List.map_map]
  refine List.map_congr_left fun g _ => ?_
  show (if g.1 = p then (g.1, g.2.1, g.2.2 ++ [i]) else g).2.1 = g.2.1
  split <;> rfl
theorem VisG.more {gs : List Grp} {E : List Ev} (h : VisG gs E) {g : Grp} (hg : g ∈ gs) (i : Nat) : VisG (more gs g.1 i) (E ++ [(g.1, i)]) := by
  refine ⟨?_, fun x hx => ?_, fun e he => ?_, by rw [more_fst]; exact h.keys, ?_⟩
  · rw [more_fst, h.ord, firsts_snoc, if_pos]
    rw [← h.ord]
    exact List.mem_map.mpr ⟨g, hg, rfl⟩
  · obtain ⟨y, hy, rfl⟩ := List.mem_map.mp hx
    rw [who_snoc]
    by_cases q : y.1 = g.1
    · rw [if_pos q]
      show y.2.2 ++ [i] = who E y.1 ++ _
      rw [if_pos q.symm, h.told y hy]
    · rw [if_neg q, if_neg (fun z => q z.symm), List.append_nil]
      exact h.told y hy
  · have key : ∀ y ∈ gs, ∃ x ∈ Sg.more gs g.1 i, x.1 = y.1 := fun y hy => by
      refine ⟨_, List.mem_map.mpr ⟨y, hy, rfl⟩, ?_⟩
      show (if y.1 = g.1 then (y.1, y.2.1, y.2.2 ++ [i]) else y).1 = y.1
      split <;> rfl
    rcases List.mem_append.mp he with he | he
    · obtain ⟨y, hy, e1⟩ := h.full e he
      obtain ⟨x, hx, e2⟩ := key y hy
      exact ⟨x, hx, e2.trans e1⟩
    · rcases List.mem_singleton.mp he with rfl
      exact key g hg
  · unfold Sg.more
    rw [List.length_map, List.length_append]
    have := h.few
    omega
theorem VisG.new {gs : List Grp} {E : List Ev} (h : VisG gs E) {p : Spot} (hp : ∀ g ∈ gs, g.1 ≠ p) (l : Addr) (i : Nat) : VisG (gs ++ [(p, l, [i])]) (E ++ [(p, i)]) := by
  refine ⟨?_, fun x hx => ?_, fun e he => ?_, ?_, ?_⟩
  · rw [List.map_append, h.ord, firsts_snoc, if_neg]
    · rfl
    · rw [← h.ord]
      intro z
      obtain ⟨g, hg, e⟩ := List.mem_map.mp z
      exact hp g hg e
  · rw [who_snoc]
    rcases List.mem_append.mp hx with hx | hx
    · rw [if_neg (fun z => hp x hx z.symm), List.append_nil]
      exact h.told x hx
    · rcases List.mem_singleton.mp hx with rfl
      have : who E p = [] := by
        unfold who
        rw [List.filter_eq_nil_iff.mpr]
        · rfl
        · intro e he z
          obtain ⟨g, hg, q⟩ := h.full e he
          exact hp g hg (q.trans (of_decide_eq_true z))
      show [i] = who E p ++ (if p = p then [i] else [])
      rw [this, if_pos rfl]
      rfl
  · rcases List.mem_append.mp he with he | he
    · obtain ⟨y, hy, q⟩ := h.full e he
      exact ⟨y, List.mem_append_left _ hy, q⟩
    · rcases List.mem_singleton.mp he with rfl
      exact ⟨_, List.mem_append_right _ (List.mem_singleton.mpr rfl), rfl⟩
  · rw [List.map_append]
    refine List.nodup_append.mpr ⟨h.keys, by simp, fun a ha b hb => ?_⟩
    obtain ⟨g, hg, rfl⟩ := List.mem_map.mp ha
    rcases List.mem_singleton.mp hb with rfl
    exact hp g hg
  · rw [List.length_append, List.length_append]
    exact Nat.add_le_add_right h.few _
/-! ### the heap -/
theorem nodup_at {α β : Type} {f : α → β} : ∀ {l : List α}, (l.map f).Nodup → ∀ {x y : α}, x ∈ l → y ∈ l → f x = f y → x = y
  | [], _, _, _, hx, _, _ => nomatch hx
  | a :: r, h, x, y, hx, hy, e => by
    rw [List.map_cons] at h
    obtain ⟨h1, h2⟩ := List.nodup_cons.mp h
    rcases List.mem_cons.mp hx with ex | hx2 <;> rcases List.mem_cons.mp hy with ey | hy2
    · rw [ex, ey]
    · exact (h1 (List.mem_map.mpr ⟨y, hy2, by rw [← ex]; exact e.symm⟩)).elim
    · exact (h1 (List.mem_map.mpr ⟨x, hx2, by rw [← ey]; exact e⟩)).elim
    · exact nodup_at h2 hx2 hy2 e
theorem VisAt.same {H0 H H' : Hp} {d : Addr} {gs : List Grp} (h : VisAt H0 H d gs) (e : Same H H') : VisAt H0 H' d gs :=
  ⟨e _ _ h.at_, fun g hg => e _ _ (h.lists g hg), h.apart, h.fresh, h.old.trans e⟩
theorem VisAt.more {H0 H : Hp} {d : Addr} {gs : List Grp} (h : VisAt H0 H d gs) (hk : (gs.map (·.1)).Nodup) {g : Grp} (hg : g ∈ gs) (i : Nat) :
    VisAt H0 (upd H g.2.1 (.lst (iV g.2.2 ++ [.int (i : Nat)]))) d (more gs g.1 i) := by
  have hd : d ≠ g.2.1 := ne_of h.at_ (h.lists g hg) (fun z => nomatch z)
  refine ⟨?_, fun x hx => ?_, by rw [more_snd]; exact h.apart, ⟨h.fresh.1, fun x hx => ?_⟩, fun b o e => ?_⟩
  · rw [upd_ne hd, more_ent]
    exact h.at_
  · obtain ⟨y, hy, rfl⟩ := List.mem_map.mp hx
    by_cases q : y.1 = g.1
    · obtain rfl := nodup_at hk hy hg q
      rw [if_pos rfl]
      show (upd H y.2.1 _) y.2.1 = _
      rw [upd_same]
      unfold iV
      rw [List.map_append]
      rfl
    · rw [if_neg q, upd_ne (fun z => q (by rw [nodup_at h.apart hy hg z]))]
      exact h.lists y hy
  · obtain ⟨y, hy, rfl⟩ := List.mem_map.mp hx
    have : (if y.1 = g.1 then (y.1, y.2.1, y.2.2 ++ [i]) else y).2.1 = y.2.1 := by split <;> rfl
    rw [this]
    exact h.fresh.2 y hy
  · rw [upd_ne (ne_of_none e (h.fresh.2 g hg))]
    exact h.old b o e
theorem VisAt.new {H0 H : Hp} {d l : Addr} {gs : List Grp} {p : Spot} {u : HO} (h : VisAt H0 H d gs) (hl : H l = some u) (hl0 : H0 l = none) (hdl : d ≠ l) (hgl : ∀ g ∈ gs, g.2.1 ≠ l) (i : Nat) :
    VisAt H0 (upd (upd H d (.dT (gs.map entS ++ [(keyS p, .ref l)]))) l (.lst [.int (i : Nat)])) d (gs ++ [(p, l, [i])]) := by
  refine ⟨?_, fun x hx => ?_, ?_, ⟨h.fresh.1, fun x hx => ?_⟩, fun b o e => ?_⟩
  · rw [upd_ne hdl, upd_same, List.map_append]
    rfl
  · rcases List.mem_append.mp hx with hx | hx
    · rw [upd_ne (hgl x hx), upd_ne (ne_of (h.lists x hx) h.at_ (fun z => nomatch z))]
      exact h.lists x hx
    · rcases List.mem_singleton.mp hx with rfl
      exact upd_same
  · rw [List.map_append]
    refine List.nodup_append.mpr ⟨h.apart, by simp, fun a ha b hb => ?_⟩
    obtain ⟨g, hg, rfl⟩ := List.mem_map.mp ha
    rcases List.mem_singleton.mp hb with rfl
    exact hgl g hg
  · rcases List.mem_append.mp hx with hx | hx
    · exact h.fresh.2 x hx
    · rcases List.mem_singleton.mp hx with rfl
      exact hl0
  · rw [upd_ne (ne_of_none e hl0), upd_ne (ne_of_none e h.fresh.1)]
    exact h.old b o e
end Sg
set_option Elab.async false
set_option linter.all false
set_option maxRecDepth 100000
set_option maxHeartbeats 4000000
namespace Sg
open PySem PySem.Spec PyProof.Rows L2
/-! ## the visits of a plan -/
theorem atD_iff {ns : List Int} {t s : Int} (hs : s ≠ -1) : atD ns t = s ↔ ∃ j : Nat, t = j ∧ ns[j]? = some s := by
  constructor
  · intro h
    rcases atD_cases ns t with ⟨j, e, hj⟩ | e
    · exact ⟨j, e, by rw [← h]; exact hj⟩
    · exact absurd (h.symm.trans e) hs
  · rintro ⟨j, rfl, hj⟩
    exact atD_in hj
/-- the first m ticks of a piece that begins in t -/
def evTo (t : Int) (x : List Int) (i : Nat) : Nat → List Ev
  | 0 => []
  | m + 1 => evTo t x i m ++ (match x[m]? with
    | some s => if s = -1 then [] else [((t + (m : Nat), s), i)]
    | none => [])
theorem who_nil (p : Spot) : who [] p = [] := rfl
theorem who_app (E F : List Ev) (p : Spot) : who (E ++ F) p = who E p ++ who F p := by
  unfold who
  rw [List.filter_append, List.map_append]
theorem who_one (q p : Spot) (i : Nat) : who [(q, i)] p = if q = p then [i] else [] := by
  have := who_snoc [] p q i
  rw [List.nil_append, who_nil, List.nil_append] at this
  exact this
theorem who_evTo (t : Int) (x : List Int) (i : Nat) (p : Spot) (m : Nat) : who (evTo t x i m) p = if ∃ j, j < m ∧ x[j]? = some p.2 ∧ p.2 ≠ -1 ∧ p.1 = t + (j : Nat) then [i] else [] := by
  induction m with
  | zero => rw [if_neg (fun ⟨j, h, _⟩ => absurd h (Nat.not_lt_zero _))]; rfl
  | succ m ih =>
    unfold evTo
    rw [who_app, ih]
    by_cases h : ∃ j, j < m ∧ x[j]? = some p.2 ∧ p.2 ≠ -1 ∧ p.1 = t + (j : Nat)
    · have h' : ∃ j, j < m + 1 ∧ x[j]? = some p.2 ∧ p.2 ≠ -1 ∧ p.1 = t + (j : Nat) := by
        obtain ⟨j, a, b⟩ := h
        exact ⟨j, Nat.lt_succ_of_lt a, b⟩
      rw [if_pos h, if_pos h']
      obtain ⟨j, a, _, _, e⟩ := h
      cases hm : x[m]? with
      | none => exact List.append_nil _
      | some s =>
        show [i] ++ who (if s = -1 then [] else [((t + (m : Nat), s), i)]) p = [i]
        by_cases hs : s = -1
        · rw [if_pos hs]; rfl
        · have hz : ¬ (t + (m : Nat), s) = p := by
            intro z
            have := congrArg Prod.fst z
            simp only at this
            omega
          rw [if_neg hs, who_one, if_neg hz]
          rfl
    · rw [if_neg h, List.nil_append]
      cases hm : x[m]? with
      | none =>
        have hz : ¬ ∃ j, j < m + 1 ∧ x[j]? = some p.2 ∧ p.2 ≠ -1 ∧ p.1 = t + (j : Nat) := by
          rintro ⟨j, a, b, c⟩
          rcases Nat.lt_succ_iff_lt_or_eq.mp a with a | rfl
          · exact h ⟨j, a, b, c⟩
          · rw [hm] at b
            exact nomatch b
        rw [if_neg hz]
        rfl
      | some s =>
        show who (if s = -1 then [] else [((t + (m : Nat), s), i)]) p = _
        by_cases hs : s = -1
        · have hz : ¬ ∃ j, j < m + 1 ∧ x[j]? = some p.2 ∧ p.2 ≠ -1 ∧ p.1 = t + (j : Nat) := by
            rintro ⟨j, a, b, c, e⟩
            rcases Nat.lt_succ_iff_lt_or_eq.mp a with a | rfl
            · exact h ⟨j, a, b, c, e⟩
            · rw [hm] at b
              exact c ((Option.some.inj b).symm.trans hs)
          rw [if_pos hs, if_neg hz]
          rfl
        · rw [if_neg hs, who_one]
          by_cases q : (t + (m : Nat), s) = p
          · rw [if_pos q, if_pos]
            subst q
            exact ⟨m, Nat.lt_succ_self _, hm, hs, rfl⟩
          · have hz : ¬ ∃ j, j < m + 1 ∧ x[j]? = some p.2 ∧ p.2 ≠ -1 ∧ p.1 = t + (j : Nat) := by
              rintro ⟨j, a, b, c, e⟩
              rcases Nat.lt_succ_iff_lt_or_eq.mp a with a | rfl
              · exact h ⟨j, a, b, c, e⟩
              · rw [hm] at b
                exact q (Prod.ext e.symm (Option.some.inj b))
            rw [if_neg q, if_neg hz]
abbrev wk (ws : List (List Int)) (k : Nat) : List Int := ws.getD k []
/-- the first n pieces -/
def evPlan (ws : List (List Int)) (ps : List (Int × Nat)) : Nat → List Ev
  | 0 => []
  | n + 1 => evPlan ws ps n ++ (match ps[n]? with
    | some st => evTo st.1 (wk ws st.2) n (wk ws st.2).length
    | none => [])
/-- piece i is at this spot -/
def here (ws : List (List Int)) (ps : List (Int × Nat)) (p : Spot) (i : Nat) : Bool := match ps[i]? with
  | some st => p.2 != -1 && decide (atD (wk ws st.2) (p.1 - st.1) = p.2)
  | none => false
theorem who_full (t : Int) (x : List Int) (i : Nat) (p : Spot) : who (evTo t x i x.length) p = if (p.2 != -1 && decide (atD x (p.1 - t) = p.2)) = true then [i] else [] := by
  rw [who_evTo]
  have key : (∃ j, j < x.length ∧ x[j]? = some p.2 ∧ p.2 ≠ -1 ∧ p.1 = t + (j : Nat)) ↔ (p.2 != -1 && decide (atD x (p.1 - t) = p.2)) = true := by
    rw [Bool.and_eq_true, bne_iff_ne, decide_eq_true_eq]
    constructor
    · rintro ⟨j, _, b, c, e⟩
      exact ⟨c, (atD_iff c).mpr ⟨j, by omega, b⟩⟩
    · rintro ⟨c, h⟩
      obtain ⟨j, e, b⟩ := (atD_iff c).mp h
      exact ⟨j, (List.getElem?_eq_some_iff.mp b).1, b, c, by omega⟩
  by_cases h : (p.2 != -1 && decide (atD x (p.1 - t) = p.2)) = true
  · rw [if_pos h, if_pos (key.mpr h)]
  · rw [if_neg h, if_neg (fun z => h (key.mp z))]
theorem who_plan (ws : List (List Int)) (ps : List (Int × Nat)) (p : Spot) (n : Nat) : who (evPlan ws ps n) p = (List.range n).filter (here ws ps p) := by
  induction n with
  | zero => rfl
  | succ n ih =>
    unfold evPlan
    rw [who_app, ih, List.range_succ, List.filter_append]
    congr 1
    unfold here
    cases hp : ps[n]? with
    | none => simp [hp, who_nil]
    | some st =>
      show who (evTo st.1 (wk ws st.2) n (wk ws st.2).length) p = _
      rw [who_full]
      by_cases h : (p.2 != -1 && decide (atD (wk ws st.2) (p.1 - st.1) = p.2)) = true
      · rw [if_pos h, List.filter_cons_of_pos (by rw [hp]; exact h)]; rfl
      · rw [if_neg h, List.filter_cons_of_neg (by rw [hp]; exact h)]; rfl
theorem evTo_len (t : Int) (x : List Int) (i m : Nat) : (evTo t x i m).length ≤ m := by
  induction m with
  | zero => exact Nat.le_refl _
  | succ m ih =>
    unfold evTo
    rw [List.length_append]
    have : (match x[m]? with | some s => if s = -1 then ([] : List Ev) else [((t + (m : Nat), s), i)] | none => []).length ≤ 1 := by
      split
      · split <;> simp
      · simp
    omega
theorem evPlan_len (ws : List (List Int)) (ps : List (Int × Nat)) (hw : ∀ x ∈ ws, x.length ≤ 60) (n : Nat) : (evPlan ws ps n).length ≤ 60 * n := by
  have hk : ∀ k, (wk ws k).length ≤ 60 := fun k => by
    unfold wk
    rw [List.getD_eq_getElem?_getD]
    cases h : ws[k]? with
    | none => simp
    | some x => exact hw x (List.mem_of_getElem? h)
  induction n with
  | zero => exact Nat.le_refl _
  | succ n ih =>
    unfold evPlan
    rw [List.length_append]
    have : (match ps[n]? with | some st => evTo st.1 (wk ws st.2) n (wk ws st.2).length | none => []).length ≤ 60 := by
      split
      · exact Nat.le_trans (evTo_len _ _ _ _) (hk _)
      · simp
    omega
theorem evTo_succ {t : Int} {x : List Int} {i m : Nat} {s : Int} (h : x[m]? = some s) : evTo t x i (m + 1) = evTo t x i m ++ (if s = -1 then [] else [((t + (m : Nat), s), i)]) := by
  show evTo t x i m ++ _ = _
  rw [h]
theorem evPlan_succ {ws : List (List Int)} {ps : List (Int × Nat)} {n : Nat} {st : Int × Nat} (h : ps[n]? = some st) : evPlan ws ps (n + 1) = evPlan ws ps n ++ evTo st.1 (wk ws st.2) n (wk ws st.2).length := by
  show evPlan ws ps n ++ _ = _
  rw [h]
/-! ### where two are at once -/
def crowd1 (E : List Ev) (p : Spot) : Option PyData := match who E p with
  | x :: y :: _ => some (.tuple [.int p.1, .int p.2, .int (x : Nat), .int (y : Nat)])
  | _ => none
def crowdD (E : List Ev) : List PyData := (firsts E).filterMap (crowd1 E)
theorem firsts_acc : ∀ (E : List Ev) (acc : List Spot), (∀ p ∈ acc, p ∈ E.foldl (fun acc e => if e.1 ∈ acc then acc else acc ++ [e.1]) acc) ∧ ∀ e ∈ E, e.1 ∈ E.foldl (fun acc e => if e.1 ∈ acc then acc else acc ++ [e.1]) acc
  | [], acc => ⟨fun p hp => hp, fun e he => (nomatch he)⟩
  | f :: r, acc => by
    rw [List.foldl_cons]
    obtain ⟨h1, h2⟩ := firsts_acc r (if f.1 ∈ acc then acc else acc ++ [f.1])
    have h3 : ∀ p ∈ acc, p ∈ (if f.1 ∈ acc then acc else acc ++ [f.1]) := fun p hp => by
      split
      · exact hp
      · exact List.mem_append_left _ hp
    have h4 : f.1 ∈ (if f.1 ∈ acc then acc else acc ++ [f.1]) := by
      split
      · assumption
      · exact List.mem_append_right _ (List.mem_singleton.mpr rfl)
    refine ⟨fun p hp => h1 p (h3 p hp), fun e he => ?_⟩
    rcases List.mem_cons.mp he with rfl | he
    · exact h1 _ h4
    · exact h2 e he
theorem mem_firsts {E : List Ev} {p : Spot} (hp : who E p ≠ []) : p ∈ firsts E := by
  obtain ⟨i, hi⟩ := List.exists_mem_of_ne_nil _ hp
  unfold who at hi
  obtain ⟨e, he, rfl⟩ := List.mem_map.mp hi
  obtain ⟨h1, h2⟩ := List.mem_filter.mp he
  have := (firsts_acc E []).2 e h1
  rw [of_decide_eq_true h2] at this
  exact this
/-! ### two pieces -/
theorem mem_bars {x y : List Int} {d : Nat} (hd : 1 ≤ d) : d ∈ barsN x y ↔ clashB x y d = true := by
  unfold barsN
  rw [List.mem_filter, List.mem_range'_1]
  constructor
  · exact fun h => h.2
  · intro h
    obtain ⟨j, s, h1, _⟩ := clashB_iff.mp h
    have := (List.getElem?_eq_some_iff.mp h1).1
    exact ⟨⟨hd, by omega⟩, h⟩
end Sg
set_option Elab.async false
set_option linter.all false
set_option maxRecDepth 100000
set_option maxHeartbeats 4000000
namespace Sg
open PySem PySem.Spec PyProof.Rows L2
/-! ### the least of some crowds -/
structure Quad where
  t : Int
  s : Int
  a : Nat
  b : Nat
deriving DecidableEq
def Quad.toD (q : Quad) : PyData := .tuple [.int q.t, .int q.s, .int (q.a : Nat), .int (q.b : Nat)]
def Quad.lt (p q : Quad) : Prop := p.t < q.t ∨ p.t = q.t ∧ (p.s < q.s ∨ p.s = q.s ∧ (p.a < q.a ∨ p.a = q.a ∧ p.b < q.b))
theorem Quad.tri {p q : Quad} (h1 : ¬ p.lt q) (h2 : ¬ q.lt p) : p = q := by
  obtain ⟨a, b, c, d⟩ := p
  obtain ⟨a', b', c', d'⟩ := q
  unfold Quad.lt at h1 h2
  simp only at h1 h2
  have e1 : a = a' := by omega
  have e2 : b = b' := by omega
  have e3 : c = c' := by omega
  have e4 : d = d' := by omega
  subst e1 e2 e3 e4
  rfl
theorem Quad.tr {p q r : Quad} (h1 : p.lt q) (h2 : q.lt r) : p.lt r := by
  unfold Quad.lt at *
  omega
theorem Quad.irr {p : Quad} : ¬ p.lt p := by
  unfold Quad.lt
  omega
theorem Quad.ge {p q r : Quad} (h1 : ¬ q.lt p) (h2 : ¬ r.lt q) : ¬ r.lt p := by
  unfold Quad.lt at *
  omega
theorem lex_ints (a b : Int) (xs ys : List PyData) : PyProof.Rows.lexLt itemOrd (PySem.W.keyToksAll (.int a :: xs)) (PySem.W.keyToksAll (.int b :: ys)) = (decide (a < b) || (decide (a = b) && PyProof.Rows.lexLt itemOrd (PySem.W.keyToksAll xs) (PySem.W.keyToksAll ys))) := by
  by_cases h : a = b
  · subst h
    rw [PySem.W.dataLt_all_yes (by simp [PySem.W.alike]) (by simp [PyData.eqv])]
    simp
  · rw [PySem.W.dataLt_all_no (by simp [PySem.W.alike]) (by simp [PyData.eqv, h]), PySem.W.dataLt_int]
    simp [h]
theorem dataLt_quad (p q : Quad) : PySem.W.dataLt p.toD q.toD = true ↔ p.lt q := by
  unfold Quad.toD Quad.lt
  rw [PySem.W.dataLt_tuple, lex_ints, lex_ints, lex_ints, lex_ints]
  have e : PyProof.Rows.lexLt itemOrd (PySem.W.keyToksAll []) (PySem.W.keyToksAll []) = false := by decide +kernel
  rw [e]
  simp only [Bool.or_eq_true, Bool.and_eq_true, decide_eq_true_eq, Bool.and_false, Bool.or_false]
  omega
theorem minD_quads : ∀ (qs : List Quad) (q : Quad), ∃ m : Quad, PySem.W.minD q.toD (qs.map Quad.toD) = m.toD ∧ m ∈ q :: qs ∧ ∀ x ∈ q :: qs, ¬ x.lt m
  | [], q => ⟨q, rfl, List.mem_cons_self, fun x hx => by rw [List.mem_singleton.mp hx]; exact Quad.irr⟩
  | r :: qs, q => by
    show ∃ m : Quad, PySem.W.minD (if PySem.W.dataLt r.toD q.toD = true then r.toD else q.toD) (qs.map Quad.toD) = m.toD ∧ _
    by_cases h : PySem.W.dataLt r.toD q.toD = true
    · rw [if_pos h]
      obtain ⟨m, e, hm, hle⟩ := minD_quads qs r
      refine ⟨m, e, List.mem_cons_of_mem _ hm, fun x hx => ?_⟩
      rcases List.mem_cons.mp hx with rfl | hx
      · exact fun z => hle r List.mem_cons_self (Quad.tr ((dataLt_quad _ _).mp h) z)
      · exact hle x hx
    · rw [if_neg h]
      obtain ⟨m, e, hm, hle⟩ := minD_quads qs q
      have hr : ¬ r.lt q := fun z => h ((dataLt_quad _ _).mpr z)
      refine ⟨m, e, ?_, fun x hx => ?_⟩
      · rcases List.mem_cons.mp hm with rfl | hm
        · exact List.mem_cons_self
        · exact List.mem_cons_of_mem _ (List.mem_cons_of_mem _ hm)
      · rcases List.mem_cons.mp hx with rfl | hx
        · exact hle x List.mem_cons_self
        · rcases List.mem_cons.mp hx with rfl | hx
          · exact Quad.ge (hle q List.mem_cons_self) hr
          · exact hle x (List.mem_cons_of_mem _ hx)
/-! ### the first clash of a plan -/
/-- two pieces at one spot -/
structure Meet (ws : List (List Int)) (ps : List (Int × Nat)) (q : Quad) : Prop where
  one : here ws ps (q.t, q.s) q.a = true
  two : here ws ps (q.t, q.s) q.b = true
  asc : q.a < q.b
/-- the first clash -/
structure First (ws : List (List Int)) (ps : List (Int × Nat)) (m : Quad) : Prop where
  meet : Meet ws ps m
  least : ∀ q, Meet ws ps q → ¬ q.lt m
theorem First.eq {ws : List (List Int)} {ps : List (Int × Nat)} {m n : Quad} (h : First ws ps m) (g : First ws ps n) : m = n :=
  Quad.tri (g.least m h.meet) (h.least n g.meet)
theorem here_lt {ws : List (List Int)} {ps : List (Int × Nat)} {p : Spot} {i : Nat} (h : here ws ps p i = true) : i < ps.length := by
  unfold here at h
  cases e : ps[i]? with
  | none => rw [e] at h; exact nomatch h
  | some st => exact (List.getElem?_eq_some_iff.mp e).1
def crowdQ1 (E : List Ev) (p : Spot) : Option Quad := match who E p with
  | x :: y :: _ => some ⟨p.1, p.2, x, y⟩
  | _ => none
def crowdQ (E : List Ev) : List Quad := (firsts E).filterMap (crowdQ1 E)
theorem crowdD_quads (E : List Ev) : crowdD E = (crowdQ E).map Quad.toD := by
  unfold crowdD crowdQ
  rw [List.map_filterMap]
  congr 1
  funext p
  unfold crowd1 crowdQ1
  split <;> simp [Quad.toD, *]
theorem filter_two {f : Nat → Bool} {n x y : Nat} {r : List Nat} (h : (List.range n).filter f = x :: y :: r) : f x = true ∧ f y = true ∧ x < y ∧ ∀ a b, f a = true → f b = true → a < b → a < n → b < n → ¬ (a < x ∨ a = x ∧ b < y) := by
  have hs : ((List.range n).filter f).Pairwise (· < ·) := List.Pairwise.filter _ List.pairwise_lt_range
  rw [h] at hs
  obtain ⟨h1, h2⟩ := List.pairwise_cons.mp hs
  obtain ⟨h3, _⟩ := List.pairwise_cons.mp h2
  have mem : ∀ a, a < n → f a = true → a ∈ x :: y :: r := fun a ha hf => by rw [← h]; exact List.mem_filter.mpr ⟨List.mem_range.mpr ha, hf⟩
  have fx := (List.mem_filter.mp (show x ∈ (List.range n).filter f by rw [h]; exact List.mem_cons_self)).2
  have fy := (List.mem_filter.mp (show y ∈ (List.range n).filter f by rw [h]; exact List.mem_cons_of_mem _ List.mem_cons_self)).2
  refine ⟨fx, fy, h1 y List.mem_cons_self, fun a b ha hb hab la lb z => ?_⟩
  rcases z with z | ⟨rfl, z⟩
  · rcases List.mem_cons.mp (mem a la ha) with rfl | m
    · omega
    · have := h1 a m
      omega
  · rcases List.mem_cons.mp (mem b lb hb) with rfl | m
    · omega
    · rcases List.mem_cons.mp m with rfl | m
      · omega
      · have := h3 b m
        omega
theorem crowd_meets {ws : List (List Int)} {ps : List (Int × Nat)} {q : Quad} (h : q ∈ crowdQ (evPlan ws ps ps.length)) : Meet ws ps q := by
  obtain ⟨p, _, e⟩ := List.mem_filterMap.mp h
  unfold crowdQ1 at e
  split at e
  · rename_i x y r hw
    rw [who_plan] at hw
    obtain ⟨a, b, c, _⟩ := filter_two hw
    cases e
    exact ⟨a, b, c⟩
  · exact nomatch e
theorem meet_crowd {ws : List (List Int)} {ps : List (Int × Nat)} {q : Quad} (h : Meet ws ps q) : ∃ m ∈ crowdQ (evPlan ws ps ps.length), m.t = q.t ∧ m.s = q.s ∧ ¬ (q.a < m.a ∨ q.a = m.a ∧ q.b < m.b) := by
  have la := here_lt h.one
  have lb := here_lt h.two
  have ma : q.a ∈ (List.range ps.length).filter (here ws ps (q.t, q.s)) := List.mem_filter.mpr ⟨List.mem_range.mpr la, h.one⟩
  have mb : q.b ∈ (List.range ps.length).filter (here ws ps (q.t, q.s)) := List.mem_filter.mpr ⟨List.mem_range.mpr lb, h.two⟩
  have asc := h.asc
  cases hw : (List.range ps.length).filter (here ws ps (q.t, q.s)) with
  | nil => rw [hw] at ma; exact nomatch ma
  | cons x r =>
    cases r with
    | nil =>
      rw [hw] at ma mb
      have e1 := List.mem_singleton.mp ma
      have e2 := List.mem_singleton.mp mb
      omega
    | cons y r =>
      have hwho : who (evPlan ws ps ps.length) (q.t, q.s) = x :: y :: r := by rw [who_plan]; exact hw
      refine ⟨⟨q.t, q.s, x, y⟩, List.mem_filterMap.mpr ⟨(q.t, q.s), mem_firsts (by rw [hwho]; exact List.cons_ne_nil _ _), ?_⟩, rfl, rfl, (filter_two hw).2.2.2 q.a q.b h.one h.two h.asc la lb⟩
      unfold crowdQ1
      rw [hwho]
/-- what clash tells: nothing if no two pieces meet, else the first clash -/
theorem due_first {ws : List (List Int)} {ps : List (Int × Nat)} : (crowdD (evPlan ws ps ps.length) = [] ∧ ∀ q, ¬ Meet ws ps q) ∨ ∃ e es m, crowdD (evPlan ws ps ps.length) = e :: es ∧ PySem.W.minD e es = m.toD ∧ First ws ps m := by
  cases hq : crowdQ (evPlan ws ps ps.length) with
  | nil =>
    refine .inl ⟨by rw [crowdD_quads, hq]; rfl, fun q h => ?_⟩
    obtain ⟨m, hm, _⟩ := meet_crowd h
    rw [hq] at hm
    exact nomatch hm
  | cons q qs =>
    obtain ⟨m, e, hm, hle⟩ := minD_quads qs q
    refine .inr ⟨q.toD, qs.map Quad.toD, m, by rw [crowdD_quads, hq]; rfl, e, crowd_meets (by rw [hq]; exact hm), fun r hr z => ?_⟩
    obtain ⟨n, hn, e1, e2, e3⟩ := meet_crowd hr
    rw [hq] at hn
    have h1 := hle n hn
    unfold Quad.lt at h1 z
    omega
end Sg
set_option Elab.async false
set_option linter.all false
set_option maxRecDepth 100000
set_option maxHeartbeats 4000000
namespace Sg
open PySem PySem.Spec PyProof.Rows L2 StX
theorem tup_new {K : PySem.W.Frag} {H : Hp} {p a : Addr} {xs : List V} {o : HO} (hp : H p = none) (h : SqT K H a xs) : SqT K (upd H p o) a xs := Same.tup (same_new hp) h
section
variable {P : Program} {w : World} {K : PySem.W.Frag} {mg : Str → Option Value} {base : Heap}
def spVisits (K : PySem.W.Frag) (C : Addr) : Sp := fun vs H Q _ => ∃ (a b : Addr) (ws : List (List Int)) (ps : List (Int × Nat)), vs = [.ref a, .ref b] ∧ LineAt K C H a ws ∧ Tp K H (.ref b) (.tuple (planD ps)) ∧ GoodP ws.length ps ∧
  ∀ H' d gs, VisAt H H' d gs → VisG gs (evPlan ws ps ps.length) → Q (.ref d) H'
theorem ok_visits {f C : Addr} {fd : FuncData} {k : Nat} (F : Fun K "_visits" "_visits" s_visits f fd) (M : Meths2 P w K mg base k C) (N : Nums mg) (m1 : mg "enumerate" = none) :
    FnOk P w K mg base CX0 (k + 3) f fd ["line", "plan"] (spVisits K C) := by
  obtain ⟨t1, n1⟩ := N.nowhere
  refine F.ok sc_visits (fun vs H Q E h => ?_) (fun cdv A outer s H vs Q E hr h => ?_)
  · obtain ⟨a, b, ws, ps, rfl, _⟩ := h; rfl
  · obtain ⟨a, b, ws, ps, rfl, hL, hP, hg, q⟩ := h
    have hu := hr.units
    refine ⟨_, pss_cons (ps_set (i := 2) sc_visits.nd rfl (.inl rfl) pe_dnewT)
      (pss_cons (ps_for PassesOwn.never rfl (pi_enumT (by rfl) m1 (pa_cons (pv 1) pa_nil))
        (pg_tup rfl (pgs_cons (pg_name (i := 3) sc_visits.nd rfl (.inl rfl)) (pgs_cons (pg_tup rfl (pgs_cons (pg_name (i := 4) sc_visits.nd rfl (.inl rfl)) (pgs_cons (pg_name (i := 5) sc_visits.nd rfl (.inl rfl)) pgs_nil))) pgs_nil)))
      (pss_one (ps_for PassesOwn.never rfl (pi_enumT (by rfl) m1 (pa_cons (M.pItem (K := K) rfl hr (pv 0) (pv 5)) pa_nil))
        (pg_tup rfl (pgs_cons (pg_name (i := 6) sc_visits.nd rfl (.inl rfl)) (pgs_cons (pg_name (i := 7) sc_visits.nd rfl (.inl rfl)) pgs_nil)))
        (pss_one (ps_if (pt_cmpR op_ne (pv 7) (pe_glob (v := .int (-1)) (by rfl) n1 ⟨_, rfl⟩) (nomark _))
          (pss_one (ps_expr (pe_bm PySem.F.plainAttrs_list PySem.F.slot_list_append PySem.F.type_list_append mt_append
            (pe_bm PySem.F.plainAttrs_dict PySem.F.slot_dict_setdefault PySem.F.type_dict_setdefault (mt_setdT (Nat.lt_of_le_of_lt (Nat.add_le_add_left (by decide) _) hu)) (pv 2) (pa_cons (pe_tup (pa_cons (pe_op op_add (pv 4) (pv 6)) (pa_cons (pv 7) pa_nil))) (pa_cons (pe_lst pa_nil) pa_nil)))
            (pa_cons (pv 3) pa_nil)))) pss_nil)))))
    (pss_one (ps_ret (pv 2)))), ?_⟩
    obtain ⟨_, xs, e, hS, hT⟩ := hP.toTup
    cases e
    have lx := hT.len
    rw [List.length_map] at lx
    have few := hg.few
    have w60 : ∀ x ∈ ws, x.length ≤ 60 := fun x hx => (hL.good.work x hx).most
    intro d hd
    have V0 : VisAt H (upd H d (.dT [])) d [] := ⟨upd_same, fun g z => (nomatch z), List.nodup_nil, ⟨hd, fun g z => (nomatch z)⟩, same_new hd⟩
    refine ⟨.ref b, rfl, b, xs, rfl, tup_new hd hS, ?_⟩
    refine for_it (walk_enumT (K := K) (a := b) (xs := xs)) (fun i σ H' => ∃ v3 v4 v5 v6 v7, σ = [some (.ref a), some (.ref b), some (.ref d), v3, v4, v5, v6, v7] ∧ ∃ gs, VisAt H H' d gs ∧ VisG gs (evPlan ws ps i))
      ⟨none, none, none, none, none, rfl, [], V0, ⟨rfl, fun g z => (nomatch z), fun g z => (nomatch z), List.nodup_nil, Nat.le_refl _⟩⟩
      (fun i σ H' _ h => ?_) (fun i x σ H' H'' hi h hY => ?_) (fun σ H' h => ?_)
    · obtain ⟨_, _, _, _, _, _, gs, hv, _⟩ := h
      exact Same.tup hv.old hS
    · obtain ⟨v3, v4, v5, v6, v7, rfl, gs, hv, hG⟩ := h
      obtain ⟨T, x1, x2, rfl, nT, rfl, f1, f2⟩ := hY
      dsimp only at f1 f2
      cases f1
      obtain ⟨dd, hdd, tt⟩ := hT.at f2
      rw [List.getElem?_map] at hdd
      obtain ⟨st, hst, rfl⟩ := Option.map_eq_some_iff.mp hdd
      obtain ⟨c, cs, rfl, hc, ht⟩ := tt.toTup
      obtain ⟨u, v, rfl⟩ : ∃ u v, cs = [u, v] := by
        have := ht.len
        match cs, this with
        | [u, v], _ => exact ⟨u, v, rfl⟩
      cases ht with
      | on g1 r =>
        cases r with
        | on g2 r2 =>
          cases g1
          cases g2
          have hk := hg.kinds st (List.mem_of_getElem? hst)
          obtain ⟨x, hx⟩ : ∃ x, ws[st.2]? = some x := ⟨ws[st.2], List.getElem?_eq_getElem hk⟩
          have exk : wk ws st.2 = x := by unfold wk; rw [List.getD_eq_getElem?_getD, hx]; rfl
          have s1 : Same H' (upd H' T (.tup [V.int (i : Nat), .ref c])) := same_new nT
          have hv1 := hv.same s1
          refine ⟨T, _, rfl, .of upd_same, rfl, _, _, rfl, _, _, rfl, ⟨c, _, rfl, Same.tup hv1.old hc, rfl, _, _, rfl, _, _, rfl, rfl, rfl, ?_⟩⟩
          refine ⟨.ref a, rfl, .int (st.2 : Nat), rfl, a, ws, st.2, x, rfl, rfl, hL.stay (.of hv1.old), hx, fun cw hcw => ?_⟩
          refine ⟨cw, x.map V.int, rfl, hcw, ?_⟩
          have lm : (x.map V.int).length = x.length := List.length_map _
          refine for_it (walk_enumT (K := K) (a := cw) (xs := x.map V.int)) (fun m σ H2 => ∃ v6 v7, σ = [some (.ref a), some (.ref b), some (.ref d), some (.int (i : Nat)), some (.int st.1), some (.int (st.2 : Nat)), v6, v7] ∧ SqT K H2 cw (x.map V.int) ∧
              ∃ gs, VisAt H H2 d gs ∧ VisG gs (evPlan ws ps i ++ evTo st.1 x i m)) ⟨_, _, rfl, hcw, gs, hv1, by rw [show evTo st.1 x i 0 = [] from rfl, List.append_nil]; exact hG⟩
            (fun m σ H2 _ h => ?_) (fun m y σ H2 H3 hm h hY => ?_) (fun σ H2 h => ?_)
          · obtain ⟨_, _, _, h, _⟩ := h
            exact h
          · obtain ⟨v6, v7, rfl, hcw2, gs2, hv2, hG2⟩ := h
            obtain ⟨T2, z1, z2, rfl, nT2, rfl, k1, k2⟩ := hY
            dsimp only at k1 k2
            cases k1
            rw [List.getElem?_map] at k2
            obtain ⟨s0, hs0, rfl⟩ := Option.map_eq_some_iff.mp k2
            have s2 : Same H2 (upd H2 T2 (.tup [V.int (m : Nat), .int s0])) := same_new nT2
            have hv3 := hv2.same s2
            have hcw3 := Same.tup s2 hcw2
            refine ⟨T2, _, rfl, .of upd_same, rfl, _, _, rfl, _, _, rfl, rfl, ?_⟩
            generalize upd H2 T2 (.tup [V.int (m : Nat), .int s0]) = H3 at hv3 hcw3 ⊢
            rw [evTo_succ hs0]
            refine ⟨.int s0, rfl, rfl, _, rfl, ?_⟩
            by_cases hs : s0 = -1
            · subst hs
              rw [decide_eq_true (rfl : V.int (-1) = V.int (-1))]
              refine iteF ⟨_, _, rfl, hcw3, gs2, hv3, ?_⟩
              rw [if_pos rfl, List.append_nil]
              exact hG2
            · rw [decide_eq_false fun z => hs (V.int.inj z)]
              refine iteT ?_
              rw [if_neg hs, ← List.append_assoc]
              have hE : (evPlan ws ps i ++ evTo st.1 x i m).length < sizeLine := by
                rw [List.length_append]
                have a1 := evPlan_len ws ps w60 i
                have a2 := evTo_len st.1 x i m
                have a3 := w60 x (List.mem_of_getElem? hx)
                have a4 : 3700 < sizeLine := by rw [sizeLine_eq]; decide
                omega
              generalize evPlan ws ps i ++ evTo st.1 x i m = E0 at hG2 hE ⊢
              refine ⟨.ref d, rfl, .inr (.inr (.inl ⟨rfl, .inr ⟨_, hv3.at_⟩⟩)), ?_⟩
              refine ⟨.int st.1, rfl, .int (m : Nat), rfl, st.1, m, rfl, rfl, .int s0, rfl, by show 2 ≤ sizeLine; decide, fun bq nbq => ⟨by show 0 ≤ sizeLine; decide, fun l nl => ?_⟩⟩
              have e4 : Same H3 (upd H3 bq (.tup [V.int (st.1 + (m : Nat)), .int s0])) := same_new nbq
              have hb4 : (upd H3 bq (.tup [V.int (st.1 + (m : Nat)), .int s0])) bq = some (.tup ((keyS (st.1 + (m : Nat), s0)).map kV)) := upd_same
              generalize upd H3 bq (.tup [V.int (st.1 + (m : Nat)), .int s0]) = H4 at e4 hb4 nl ⊢
              have hv4 := hv3.same e4
              have hcw4 := Same.tup e4 hcw3
              have e5 : Same H4 (upd H4 l (.lst [])) := same_new nl
              have hl5 : (upd H4 l (.lst [])) l = some (.lst []) := upd_same
              have hv5 := hv4.same e5
              have hcw5 := Same.tup e5 hcw4
              have hb5 := e5 _ _ hb4
              have nlH : H l = none := hv4.old.free nl
              have ndl : d ≠ l := ne_of_none hv4.at_ nl
              have ngl : ∀ g ∈ gs2, g.2.1 ≠ l := fun g hg' => ne_of_none (hv4.lists g hg') nl
              generalize upd H4 l (.lst []) = H5 at e5 hl5 hv5 hcw5 hb5 ⊢
              have lenk : (gs2.map entS).length < sizeLine := by
                rw [List.length_map]
                exact Nat.lt_of_le_of_lt hG2.few hE
              obtain ⟨q1, q2⟩ := val_ent (st.1 + (m : Nat), s0) gs2
              refine ⟨d, gs2.map entS, keyS (st.1 + (m : Nat), s0), bq, .ref l, rfl, rfl, hv5.at_, hb5, lenk, fun v hval => ?_, fun hval => ?_⟩
              · obtain ⟨g, hgm, hgp, rfl⟩ := q1 v hval
                refine ⟨.inl ⟨rfl, _, .of (hv5.lists g hgm)⟩, .int (i : Nat), rfl, g.2.1, _, _, rfl, rfl, hv5.lists g hgm, ?_, ?_⟩
                · unfold iV
                  rw [List.length_map, hG2.told g hgm]
                  exact Nat.lt_of_le_of_lt (who_len _ _) hE
                · refine ⟨_, _, rfl, tup_upd (hv5.lists g hgm) (fun _ z => nomatch z) (fun _ _ z => nomatch z) hcw5, _, hv5.more hG2.keys hgm i, ?_⟩
                  rw [← hgp]
                  exact hG2.more hgm i
              · rw [putK_new _ hval]
                have hnew := hv5.new (p := (st.1 + (m : Nat), s0)) hl5 nlH ndl ngl i
                have hd6 : d ≠ l := ndl
                have hl6 : (upd H5 d (.dT (gs2.map entS ++ [(keyS (st.1 + (m : Nat), s0), .ref l)]))) l = some (.lst []) := by rw [upd_ne hd6.symm]; exact hl5
                have hcw6 : SqT K (upd H5 d (.dT (gs2.map entS ++ [(keyS (st.1 + (m : Nat), s0), .ref l)]))) cw (x.map V.int) := tup_upd hv5.at_ (fun _ z => nomatch z) (fun _ _ z => nomatch z) hcw5
                refine ⟨.inl ⟨rfl, _, .of hl6⟩, .int (i : Nat), rfl, l, _, _, rfl, rfl, hl6, by show 0 < sizeLine; decide, ?_⟩
                exact ⟨_, _, rfl, tup_upd hl6 (fun _ z => nomatch z) (fun _ _ z => nomatch z) hcw6, _, hnew, hG2.new (q2 hval) l i⟩
          · obtain ⟨v6, v7, rfl, hcw2, gs2, hv2, hG2⟩ := h
            refine ⟨_, _, _, _, _, rfl, gs2, hv2, ?_⟩
            rw [evPlan_succ hst, exk, ← lm]
            exact hG2
    · obtain ⟨v3, v4, v5, v6, v7, rfl, gs, hv, hG⟩ := h
      refine ⟨.ref d, rfl, q H' d gs hv ?_⟩
      rw [← lx]
      exact hG
end
end Sg
set_option Elab.async false
set_option linter.all false
set_option maxRecDepth 100000
set_option maxHeartbeats 4000000
namespace Sg
open PySem PySem.Spec PyProof.Rows L2 StX
theorem call_lenK {X : Cx} {K : PySem.W.Frag} (hK : X.K = K) : CallR X (.builtin "len") (fun xs H Q => ∃ p ys, xs = [.ref p] ∧ (SqL K H p ys ∨ SqT K H p ys) ∧ Q (.int ys.length) H) := by
  subst hK
  exact call_len_seq
theorem ix_listK {X : Cx} {K : PySem.W.Frag} (hK : X.K = K) : IxR X (rIxL K) := by
  subst hK
  exact ix_list
theorem pa_starK {X : Cx} {K : PySem.W.Frag} {e : Expr} {es : List Expr} {te : TE} {t : TA} {p : Pos} (hK : X.K = K) (he : PE X e te) (hr : PA X es t) (hs : starEach (.Starred e p :: es) X.env = (true, eval e X.env) :: starEach es X.env := by rfl) : PA X (.Starred e p :: es) (tStar K te t) := by
  subst hK
  exact pa_star he hr hs
theorem quad_alike {ds : List PyData} (h : ∀ d ∈ ds, ∃ a b c e : Int, d = .tuple [.int a, .int b, .int c, .int e]) : PySem.W.AlikeAll ds := by
  refine ⟨fun x hx y hy => ?_, fun x hx z => ?_⟩
  · obtain ⟨a, b, c, e, rfl⟩ := h x hx
    obtain ⟨a2, b2, c2, e2, rfl⟩ := h y hy
    simp only [PySem.W.alike, PySem.W.alikeAll, Bool.and_self]
  · obtain ⟨a, b, c, e, rfl⟩ := h x hx
    exact nomatch z
theorem quad_depth {ds : List PyData} (h : ∀ d ∈ ds, ∃ a b c e : Int, d = .tuple [.int a, .int b, .int c, .int e]) : PyData.depthAll ds ≤ 10 := by
  induction ds with
  | nil => exact Nat.zero_le _
  | cons d r ih =>
    obtain ⟨a, b, c, e, rfl⟩ := h d List.mem_cons_self
    show max (PyData.depth (.tuple [.int a, .int b, .int c, .int e])) (PyData.depthAll r) ≤ 10
    refine Nat.max_le.mpr ⟨?_, ih fun x hx => h x (List.mem_cons_of_mem _ hx)⟩
    exact Nat.le_trans (show PyData.depth (.tuple [.int a, .int b, .int c, .int e]) ≤ 1 from Nat.le_refl _) (by decide)
/-- what is due of a list of crowds: None, or the least of them -/
def Due (K : PySem.W.Frag) (H : Hp) (cs : List PyData) (y : V) : Prop := (cs = [] ∧ y = .non) ∨ ∃ e es, cs = e :: es ∧ Tp K H y (PySem.W.minD e es)
theorem Due.stay {K : PySem.W.Frag} {H H' : Hp} {cs : List PyData} {y : V} (h : Due K H cs y) (e : Same H H') : Due K H' cs y := by
  rcases h with h | ⟨x, xs, h, t⟩
  · exact .inl h
  · exact .inr ⟨x, xs, h, t.stay (.of e)⟩
theorem due_two {K : PySem.W.Frag} {H : Hp} {cs : List PyData} {Q : VK} (q : ∀ H' y, Same H H' → Due K H' cs y → Q y H') : ∀ H', Same H H' → (cs = [] → Q .non H') ∧ ∀ e es c, cs = e :: es → Tp K H' c (PySem.W.minD e es) → Q c H' :=
  fun H' e => ⟨fun h => q H' .non e (.inl ⟨h, rfl⟩), fun z zs c h t => q H' c e (.inr ⟨z, zs, h, t⟩)⟩
section
variable {P : Program} {w : World} {K : PySem.W.Frag} {mg : Str → Option Value} {base : Heap}
/-! ### clash, of a plan -/
def spClashP (K : PySem.W.Frag) (C : Addr) : Sp := fun vs H Q _ => ∃ (a b : Addr) (ws : List (List Int)) (ps : List (Int × Nat)), vs = [.ref a, .ref b] ∧ LineAt K C H a ws ∧ Tp K H (.ref b) (.tuple (planD ps)) ∧ GoodP ws.length ps ∧
  ∀ H' y, Same H H' → Due K H' (crowdD (evPlan ws ps ps.length)) y → Q y H'
theorem ok_clash {f f1 f2 C : Addr} {fd fd1 fd2 : FuncData} {k : Nat} (F : Fun K "clash" "clash" s_clash f fd)
    (G1 : FnOk P w K mg base CX0 k f1 fd1 ["line", "thing"] (spReqPlan K C)) (kp1 : PySem.W.keepIn K (.ref f1) = true) (b1 : Binds K fd1 ["line", "thing"] []) (g1 : mg "require_plan" = some (.ref f1))
    (G2 : FnOk P w K mg base CX0 k f2 fd2 ["line", "plan"] (spVisits K C)) (kp2 : PySem.W.keepIn K (.ref f2) = true) (b2 : Binds K fd2 ["line", "plan"] []) (g2 : mg "_visits" = some (.ref f2))
    (m1 : mg "len" = none) (m2 : mg "min" = none) : FnOk P w K mg base CX0 (k + 1) f fd ["line", "plan"] (spClashP K C) := by
  refine F.ok sc_clash (fun vs H Q E h => ?_) (fun cdv A outer s H vs Q E hr h => ?_)
  · obtain ⟨a, b, ws, ps, rfl, _⟩ := h; rfl
  · obtain ⟨a, b, ws, ps, rfl, hL, hP, hg, q⟩ := h
    refine ⟨_, pss_cons (ps_expr (pe_call G1 hr (by rfl) g1 kp1 b1 .nil pass0 (pa_cons (pv 0) (pa_cons (pv 1) pa_nil))))
      (pss_cons (ps_set (i := 2) sc_clash.nd rfl (.inl rfl) (pe_call G2 hr (by rfl) g2 kp2 b2 .nil pass0 (pa_cons (pv 0) (pa_cons (pv 1) pa_nil))))
      (pss_cons (ps_lock (ps_setLc (i := 3) (own := [("place", 4), ("pieces", 5)]) (g := gTup K 2 (gCons (gName 4) (gCons (gName 5) gNil))) (by rfl) sc_clash.nd rfl rfl (sw_true rfl rfl rfl (by decide +kernel)) (pi_itemsT (pv 2))
        (blkOk_by (N := ["line", "plan", "visits", "clashes", "place", "pieces"]) (sc := defScope s_clash) (by decide +kernel))
        (fun _ _ _ _ _ => pg_tup rfl (pgs_cons (pg_name (i := 4) sc_clash.nd rfl (Or.inl rfl)) (pgs_cons (pg_name (i := 5) sc_clash.nd rfl (Or.inl rfl)) pgs_nil)))
        (fun _ _ _ _ _ => pts_one (pt_cmpR op_gt (pe_callB (call_lenK (K := K) rfl) (by rfl) m1 PySem.boot_len (pa_cons (pv 5) pa_nil)) pe_int (nomark _)))
        (fun _ _ _ _ _ => pe_tup (pa_starK (K := K) rfl (pv 4) (pa_cons (pe_ix (ix_listK (K := K) rfl) (pv 5) pe_int (fun _ _ => rfl)) (pa_cons (pe_ix (ix_listK (K := K) rfl) (pv 5) pe_int (fun _ _ => rfl)) pa_nil))))))
      (pss_one (ps_ret (pe_callBK (cr_minD rfl hr) (by rfl) m2 (by decide +kernel) (pa_cons (pv 3) pa_nil) (pk_cons pe_non pk_nil)))))), ?_⟩
    refine ⟨.ref a, rfl, .ref b, rfl, a, b, ws, ps, rfl, hL, hP, hg, ?_⟩
    refine ⟨.ref a, rfl, .ref b, rfl, a, b, ws, ps, rfl, hL, hP, hg, fun H1 d gs hv hG => ?_⟩
    have hE : (evPlan ws ps ps.length).length < sizeLine := by
      have a1 := evPlan_len ws ps (fun x hx => (hL.good.work x hx).most) ps.length
      have a2 := hg.few
      have a4 : 3700 < sizeLine := by rw [sizeLine_eq]; decide
      omega
    have ec : crowdD (evPlan ws ps ps.length) = gs.filterMap (fun g => crowd1 (evPlan ws ps ps.length) g.1) := by
      unfold crowdD
      rw [← hG.ord, List.filterMap_map]
      rfl
    have q' : ∀ H', Same H H' → (gs.filterMap (fun g => crowd1 (evPlan ws ps ps.length) g.1) = [] → Q .non H') ∧ ∀ e es c, gs.filterMap (fun g => crowd1 (evPlan ws ps ps.length) g.1) = e :: es → Tp K H' c (PySem.W.minD e es) → Q c H' := by
      rw [← ec]
      exact due_two q
    generalize evPlan ws ps ps.length = E0 at hG hE q'
    clear q ec
    refine ⟨d, _, hv.at_, trivial, fun ob => ?_⟩
    have hd0 : (upd H1 d (.frz ob (.dT (gs.map entS)))) d = some (.frz ob (.dT (gs.map entS))) := upd_same
    have hls : ∀ g ∈ gs, (upd H1 d (.frz ob (.dT (gs.map entS)))) g.2.1 = some (.lst (iV g.2.2)) := fun g hg' => by
      rw [upd_ne (ne_of (hv.lists g hg') hv.at_ (fun z => nomatch z))]
      exact hv.lists g hg'
    refine ⟨.ref d, rfl, d, ob, _, rfl, hd0, fun D hD => ?_⟩
    refine lc_it walk_itemsT (fun j H' => Same (upd H1 d (.frz ob (.dT (gs.map entS)))) H' ∧ ∃ acc, H' D = some (.lst acc) ∧ TpAll K H' acc ((gs.take j).filterMap (fun g => crowd1 E0 g.1))) ⟨same_new hD, [], upd_same, .no⟩
      (fun j H' _ h => h.1 _ _ hd0) (fun j x H' H'' hj h hY => ?_) (fun H' h => ?_)
    · obtain ⟨e1, acc, hacc, hTA⟩ := h
      obtain ⟨T, r, kk, u, hk, hr', rfl, nT, rfl⟩ := hY
      rw [List.getElem?_map] at hk
      obtain ⟨g, hgj, eg⟩ := Option.map_eq_some_iff.mp hk
      obtain ⟨rfl, rfl⟩ : keyS g.1 = kk ∧ V.ref g.2.1 = u := ⟨congrArg Prod.fst eg, congrArg Prod.snd eg⟩
      have hgm : g ∈ gs := List.mem_of_getElem? hgj
      have eT : Same H' (upd H' T (.tup [V.ref r, V.ref g.2.1])) := same_new nT
      have hl1 := eT _ _ (e1 _ _ (hls g hgm))
      have hr1 := eT _ _ hr'
      have hacc1 := eT _ _ hacc
      have e11 := e1.trans eT
      have hTA1 := hTA.stay (.of eT)
      have nDH : H1 D = none ∨ True := .inr trivial
      refine ⟨T, _, rfl, .of upd_same, rfl, _, _, rfl, _, _, rfl, rfl, rfl, ?_⟩
      generalize upd H' T (.tup [V.ref r, V.ref g.2.1]) = H2 at hl1 hr1 hacc1 e11 hTA1 ⊢
      have step : gs.take (j + 1) = gs.take j ++ [g] := by rw [List.take_add_one, hgj]; rfl
      have hw := hG.told g hgm
      have lj : acc.length < sizeLine := by
        have b1 := hTA.len
        have b2 := List.length_filterMap_le (fun g : Grp => crowd1 E0 g.1) (gs.take j)
        rw [List.length_take] at b2
        have b3 := hG.few
        omega
      refine ⟨.ref g.2.1, rfl, g.2.1, _, rfl, .inl (.of hl1), _, 1, rfl, rfl, _, rfl, ite2 (fun e => ?_) (fun e => ?_)⟩
      · have e2 : ((iV g.2.2).length : Int) > 1 := of_decide_eq_true e
        obtain ⟨a1, b1, r1, ew⟩ : ∃ a1 b1 r1, g.2.2 = a1 :: b1 :: r1 := by
          unfold iV at e2
          rw [List.length_map] at e2
          match g.2.2, e2 with
          | a1 :: b1 :: r1, _ => exact ⟨a1, b1, r1, rfl⟩
          | [_], z => exact absurd z (by show ¬ ((1 : Nat) : Int) > 1; decide)
          | [], z => exact absurd z (by show ¬ ((0 : Nat) : Int) > 1; decide)
        have hl2 : H2 g.2.1 = some (.lst (V.int (a1 : Nat) :: V.int (b1 : Nat) :: iV r1)) := by rw [hl1, ew]; rfl
        refine ⟨.ref r, rfl, r, _, rfl, .inl (.of hr1), .ref g.2.1, rfl, g.2.1, _, 0, .int (a1 : Nat), rfl, rfl, .of hl2, atI0, .ref g.2.1, rfl, g.2.1, _, 1, .int (b1 : Nat), rfl, rfl, .of hl2, atI1, by show 4 ≤ sizeLine; decide, fun t nt => ?_⟩
        have et : Same H2 (upd H2 t (.tup ((keyS g.1).map kV ++ [V.int (a1 : Nat), V.int (b1 : Nat)]))) := same_new nt
        have ht3 : (upd H2 t (.tup ((keyS g.1).map kV ++ [V.int (a1 : Nat), V.int (b1 : Nat)]))) t = some (.tup ([g.1.1, g.1.2, ((a1 : Nat) : Int), ((b1 : Nat) : Int)].map V.int)) := upd_same
        generalize upd H2 t (.tup ((keyS g.1).map kV ++ [V.int (a1 : Nat), V.int (b1 : Nat)])) = H3 at et ht3 ⊢
        have hacc3 := et _ _ hacc1
        have c1 : crowd1 E0 g.1 = some (.tuple (iD [g.1.1, g.1.2, ((a1 : Nat) : Int), ((b1 : Nat) : Int)])) := by
          unfold crowd1
          rw [← hw, ew]
          rfl
        have all3 : TpAll K H3 (acc ++ [.ref t]) ((gs.take (j + 1)).filterMap (fun g => crowd1 E0 g.1)) := by
          rw [step, List.filterMap_append, List.filterMap_cons_some (f := fun g : Grp => crowd1 E0 g.1) (a := g) (l := []) c1, List.filterMap_nil]
          exact (hTA1.stay (.of et)).add (.on (.ofInts (.of ht3)) .no)
        refine ⟨acc, hacc3, lj, fun y o e => ?_, _, upd_same, all3.stayT (fun _ _ z => tup_upd hacc3 (fun _ z => nomatch z) (fun _ _ z => nomatch z) z)⟩
        rw [upd_ne (ne_of_none e hD)]
        exact et _ _ (e11 _ _ e)
      · refine ⟨e11, acc, hacc1, ?_⟩
        have e2 : ¬ ((iV g.2.2).length : Int) > 1 := fun z => e (decide_eq_true z)
        have c1 : crowd1 E0 g.1 = none := by
          unfold crowd1
          rw [← hw]
          unfold iV at e2
          rw [List.length_map] at e2
          match g.2.2, e2 with
          | a1 :: b1 :: r1, z => exact absurd (show (((a1 :: b1 :: r1).length : Nat) : Int) > 1 by rw [List.length_cons, List.length_cons]; omega) z
          | [_], _ => rfl
          | [], _ => rfl
        rw [step, List.filterMap_append, List.filterMap_cons_none (f := fun g : Grp => crowd1 E0 g.1) (a := g) (l := []) c1, List.filterMap_nil, List.append_nil]
        exact hTA1
    · obtain ⟨e1, acc, hacc, hTA⟩ := h
      have eln : gs.take (gs.map entS).length = gs := by rw [List.length_map, List.take_length]
      rw [eln] at hTA
      have hd1 := e1 _ _ hd0
      refine ⟨hd1, ?_⟩
      have nDd : D ≠ d := ne_of hacc hd1 (fun z => nomatch z)
      have hacc4 : (upd H' d (.dT (gs.map entS))) D = some (.lst acc) := by rw [upd_ne nDd]; exact hacc
      have hTA4 : TpAll K (upd H' d (.dT (gs.map entS))) acc (gs.filterMap (fun g => crowd1 E0 g.1)) := hTA.stayT (fun _ _ z => tup_upd hd1 (fun _ z => nomatch z) (fun _ _ z => nomatch z) z)
      have e4 : Same H (upd H' d (.dT (gs.map entS))) := fun y o e => by
        have n := ne_of_none e hv.fresh.1
        rw [upd_ne n]
        refine e1 _ _ ?_
        rw [upd_ne n]
        exact hv.old _ _ e
      generalize upd H' d (.dT (gs.map entS)) = H4 at hacc4 hTA4 e4 ⊢
      obtain ⟨q1, q2⟩ := q' H4 e4
      have quads : ∀ z ∈ gs.filterMap (fun g => crowd1 E0 g.1), ∃ a b c e : Int, z = .tuple [.int a, .int b, .int c, .int e] := by
        intro z hz
        obtain ⟨g, _, eg⟩ := List.mem_filterMap.mp hz
        unfold crowd1 at eg
        split at eg
        · exact ⟨_, _, _, _, (Option.some.inj eg).symm⟩
        · exact nomatch eg
      refine ⟨.ref D, rfl, D, acc, _, .non, rfl, rfl, .of hacc4, hTA4.dp, quad_alike quads, quad_depth quads, q1, fun i y e es ee hy hd => ?_⟩
      obtain ⟨d2, hd2, t2⟩ := hTA4.at hy
      rw [hd] at hd2
      cases hd2
      exact q2 e es y ee t2
end
end Sg
set_option Elab.async false
set_option linter.all false
set_option maxRecDepth 100000
set_option maxHeartbeats 4000000
namespace Sg
open PySem PySem.Spec PyProof.Rows L2
/-- a piece is at this spot -/
def hereS (ws : List (List Int)) (p : Spot) (st : Int × Nat) : Bool := p.2 != -1 && decide (atD (wk ws st.2) (p.1 - st.1) = p.2)
theorem here_at {ws : List (List Int)} {ps : List (Int × Nat)} {p : Spot} {i : Nat} : here ws ps p i = true ↔ ∃ st, ps[i]? = some st ∧ hereS ws p st = true := by
  unfold here hereS
  cases e : ps[i]? with
  | none => simp
  | some st => simp
theorem hereS_iff {ws : List (List Int)} {p : Spot} {st : Int × Nat} : hereS ws p st = true ↔ p.2 ≠ -1 ∧ ∃ j : Nat, p.1 = st.1 + (j : Nat) ∧ (wk ws st.2)[j]? = some p.2 := by
  unfold hereS
  rw [Bool.and_eq_true, bne_iff_ne, decide_eq_true_eq]
  constructor
  · rintro ⟨c, h⟩
    obtain ⟨j, e, b⟩ := (atD_iff c).mp h
    exact ⟨c, j, by omega, b⟩
  · rintro ⟨c, j, e, b⟩
    exact ⟨c, (atD_iff c).mpr ⟨j, by omega, b⟩⟩
theorem GoodP.up {n : Nat} {ps : List (Int × Nat)} (h : GoodP n ps) : ∀ (j i : Nat) (s t : Int × Nat), i < j → ps[i]? = some s → ps[j]? = some t → s.1 < t.1
  | 0, i, s, t, hi, _, _ => absurd hi (Nat.not_lt_zero _)
  | j + 1, i, s, t, hi, hs, ht => by
    have hj : j < ps.length := by
      have := (List.getElem?_eq_some_iff.mp ht).1
      omega
    have h1 := h.asc (j + 1) t ht
    rw [leastAt_succ (s := ps[j]) (List.getElem?_eq_getElem hj)] at h1
    by_cases e : i = j
    · subst e
      rw [List.getElem?_eq_getElem hj] at hs
      cases hs
      omega
    · have := GoodP.up h j i s ps[j] (by omega) hs (List.getElem?_eq_getElem hj)
      omega
/-- two pieces meet somewhere: the bars tell it -/
theorem meet_bars {n : Nat} {ws : List (List Int)} {ps : List (Int × Nat)} (hg : GoodP n ps) {a b : Nat} {s t : Int × Nat} (ha : ps[a]? = some s) (hb : ps[b]? = some t) (hab : a < b) :
    (∃ x y, Meet ws ps ⟨x, y, a, b⟩) ↔ ∃ d : Nat, t.1 - s.1 = (d : Nat) ∧ d ∈ barsN (wk ws s.2) (wk ws t.2) := by
  have up := hg.up b a s t hab ha hb
  constructor
  · rintro ⟨x, y, h⟩
    obtain ⟨s', e1, h1⟩ := here_at.mp h.one
    obtain ⟨t', e2, h2⟩ := here_at.mp h.two
    have e1' : s' = s := by rw [ha] at e1; exact (Option.some.inj e1).symm
    have e2' : t' = t := by rw [hb] at e2; exact (Option.some.inj e2).symm
    subst e1' e2'
    obtain ⟨c, j, g1, g2⟩ := hereS_iff.mp h1
    obtain ⟨_, j2, g3, g4⟩ := hereS_iff.mp h2
    simp only at g1 g2 g3 g4 c
    refine ⟨(t'.1 - s'.1).toNat, by omega, (mem_bars (by omega)).mpr (clashB_iff.mpr ⟨j2, y, ?_, g4, c⟩)⟩
    rw [show (t'.1 - s'.1).toNat + j2 = j by omega]
    exact g2
  · rintro ⟨d, e, hd⟩
    obtain ⟨j, x, g1, g2, c⟩ := clashB_iff.mp ((mem_bars (by omega)).mp hd)
    refine ⟨t.1 + (j : Nat), x, here_at.mpr ⟨s, ha, hereS_iff.mpr ⟨c, d + j, by simp only; omega, g1⟩⟩, here_at.mpr ⟨t, hb, hereS_iff.mpr ⟨c, j, rfl, g2⟩⟩, hab⟩
end Sg
set_option Elab.async false
set_option linter.all false
set_option maxRecDepth 100000
set_option maxHeartbeats 4000000
namespace Sg
open PySem PySem.Spec PyProof.Rows L2 StX
theorem cLenK {X : Cx} {K : PySem.W.Frag} {k : Nat} {C : Addr} (M : Meths X.prog X.w K X.mg X.base k C) (hK : X.K = K) (hr : Room (k + 2) X.A) : CallR X (.builtin "len") (fun xs H Q => ∃ a ws, xs = [.ref a] ∧ LineAt K C H a ws ∧ Q (.int (ws.length : Nat)) H) := by
  subst hK
  exact M.cLen hr
/-- a lap of a line of n works -/
structure GoodLap (n : Nat) (lp : List Int) : Prop where
  pos : 1 ≤ lp.length
  most : lp.length ≤ 900
  items : ∀ x ∈ lp, -1 ≤ x ∧ x < n
section
variable {P : Program} {w : World} {K : PySem.W.Frag} {mg : Str → Option Value} {base : Heap}
/-! ### is_lap, require_lap -/
def spIsLap (K : PySem.W.Frag) (C : Addr) : Sp := fun vs H Q _ => ∃ (a b : Addr) (ws : List (List Int)) (lp : List Int), vs = [.ref a, .ref b] ∧ LineAt K C H a ws ∧ SqT K H b (lp.map V.int) ∧ GoodLap ws.length lp ∧ ∀ H', Same H H' → Q (.bl true) H'
theorem ok_is_lap {f f1 C : Addr} {fd fd1 : FuncData} {k : Nat} (F : Fun K "is_lap" "is_lap" s_is_lap f fd) (M : Meths2 P w K mg base k C) (hN : ∃ t, mg "NOTHING" = some (.int (-1) t))
    (G1 : FnOk P w K mg base CX0 (k + 2) f1 fd1 ["thing", "least", "most"] spIsBetween) (kp1 : PySem.W.keepIn K (.ref f1) = true) (b1 : Binds K fd1 ["thing", "least", "most"] []) (g1 : mg "is_between" = some (.ref f1))
    (m1 : mg "isinstance" = none) (m2 : mg "tuple" = none) (m3 : mg "len" = none) (m4 : mg "all" = none) : FnOk P w K mg base CX0 (k + 3) f fd ["line", "thing"] (spIsLap K C) := by
  obtain ⟨tN, nN⟩ := hN
  refine F.ok sc_is_lap (fun vs H Q E h => ?_) (fun cdv A outer s H vs Q E hr h => ?_)
  · obtain ⟨a, b, ws, lp, rfl, _⟩ := h; rfl
  · obtain ⟨a, b, ws, lp, rfl, hL, hS, hg, q⟩ := h
    refine ⟨_, pss_cons (ps_if (PW.pt (pw_or (pt_not (pt_val (pe_callB call_isi (by rfl) m1 (by decide +kernel) (pa_cons (pv 1) (pa_cons (pe_bltn (v := .ty "tuple") (by rfl) m2 (by decide +kernel) rfl) pa_nil)))))
        (pw_or1 (pt_cmpR op_eq (pe_callB call_len_seq (by rfl) m3 PySem.boot_len (pa_cons (pv 1) pa_nil)) pe_int (nomark _))))) (pss_one (ps_ret pe_bl)) pss_nil)
      (pss_one (ps_ret (pe_callB (cr_all rfl) (by rfl) m4 (by decide +kernel) (pa_cons
          (pe_lc (own := [("item", 2)]) (g := gName 2) (tt := tYes) rfl sc_is_lap.nd (pi_tup (pv 1)) (blkOk_by (N := ["line", "thing", "item"]) (sc := defScope s_is_lap) (by decide +kernel))
            (fun _ _ _ _ _ => pg_name (i := 2) sc_is_lap.nd rfl (Or.inl rfl)) (fun _ _ _ _ _ => pts_nil)
            (fun _ _ _ _ _ => pe_call G1 hr (by rfl) g1 kp1 b1 .nil pass0 (pa_cons (pv 2) (pa_cons (pe_glob (v := .int (-1)) (by rfl) nN ⟨_, rfl⟩) (pa_cons (pe_op op_sub (pe_callB (cLenK (K := K) M.m rfl hr) (by rfl) m3 PySem.boot_len (pa_cons (pv 0) pa_nil)) pe_int) pa_nil))))) pa_nil)))), ?_⟩
    have ll : (lp.map V.int).length = lp.length := List.length_map _
    have l1 := hg.pos
    have l2 := hg.most
    refine ⟨.ref b, rfl, .ref b, .ty "tuple", _, _, true, rfl, .ty _, tyT hS, kit_ty (by decide +kernel), true, rfl, iteF ?_⟩
    refine ⟨.ref b, rfl, b, _, rfl, .inr hS, rfl, ?_⟩
    rw [show decide (V.int (((lp.map V.int).length : Nat) : Int) = V.int 0) = false from decide_eq_false fun z => by have := V.int.inj z; omega]
    refine ⟨_, rfl, iteF ?_⟩
    refine ⟨.ref b, rfl, b, rfl, ⟨_, hS⟩, fun D hD => ?_⟩
    refine lc_tup (xs := lp.map V.int) (fun i H' => Same H H' ∧ H' D = some (.lst ((List.replicate i true).map V.bl))) ⟨same_new hD, upd_same⟩ (fun i H' _ h => Same.tup h.1 hS) (fun i x H' hx h => ?_) (fun H' h => ?_)
    · rw [List.getElem?_map] at hx
      obtain ⟨z, hz, rfl⟩ := Option.map_eq_some_iff.mp hx
      have hi := (List.getElem?_eq_some_iff.mp hz).1
      obtain ⟨z1, z2⟩ := hg.items z (List.mem_of_getElem? hz)
      refine ⟨rfl, .int z, rfl, .ref a, rfl, a, ws, rfl, hL.stay (.of h.1), _, 1, rfl, rfl, z, -1, (ws.length : Nat) - 1, rfl, ?_⟩
      rw [decide_eq_true (show (-1 : Int) ≤ z by omega), decide_eq_true (show z ≤ (ws.length : Nat) - 1 by omega)]
      refine ⟨_, h.2, ?_, fun y o e => ?_, ?_⟩
      · rw [List.length_map, List.length_replicate]
        exact small1000 (by omega)
      · rw [upd_ne (ne_of_none e hD)]
        exact h.1 _ _ e
      · rw [upd_same, List.replicate_succ', List.map_append]
        rfl
    · have hall : (List.replicate (lp.map V.int).length true).all id = true := by simp
      refine ⟨D, _, rfl, .of h.2, ?_⟩
      rw [hall]
      exact q H' h.1
def spReqLap (K : PySem.W.Frag) (C : Addr) : Sp := fun vs H Q _ => ∃ (a b : Addr) (ws : List (List Int)) (lp : List Int), vs = [.ref a, .ref b] ∧ LineAt K C H a ws ∧ SqT K H b (lp.map V.int) ∧ GoodLap ws.length lp ∧ ∀ H', Same H H' → Q .non H'
theorem ok_require_lap {f f1 f2 C : Addr} {fd fd1 fd2 : FuncData} {k : Nat} (F : Fun K "require_lap" "require_lap" s_require_lap f fd)
    (G1 : FnOk P w K mg base CX0 k f1 fd1 ["thing"] (spReqLine K C)) (kp1 : PySem.W.keepIn K (.ref f1) = true) (b1 : Binds K fd1 ["thing"] []) (g1 : mg "require_line" = some (.ref f1))
    (G2 : FnOk P w K mg base CX0 k f2 fd2 ["line", "thing"] (spIsLap K C)) (kp2 : PySem.W.keepIn K (.ref f2) = true) (b2 : Binds K fd2 ["line", "thing"] []) (g2 : mg "is_lap" = some (.ref f2)) :
    FnOk P w K mg base CX0 (k + 1) f fd ["line", "thing"] (spReqLap K C) := by
  refine F.ok sc_require_lap (fun vs H Q E h => ?_) (fun cdv A outer s H vs Q E hr h => ?_)
  · obtain ⟨a, b, ws, lp, rfl, _⟩ := h; rfl
  · obtain ⟨a, b, ws, lp, rfl, hL, hS, hg, q⟩ := h
    refine ⟨_, pss_cons (ps_expr (pe_call G1 hr (by rfl) g1 kp1 b1 .nil pass0 (pa_cons (pv 0) pa_nil)))
      (pss_one (ps_if (pt_not (pt_val (pe_call G2 hr (by rfl) g2 kp2 b2 .nil pass0 (pa_cons (pv 0) (pa_cons (pv 1) pa_nil))))) (pss_one ps_never) pss_nil)), ?_⟩
    exact ⟨.ref a, rfl, a, ws, rfl, hL, .ref a, rfl, .ref b, rfl, a, b, ws, lp, rfl, hL, hS, hg, fun H' e => ⟨true, rfl, iteF (q H' e)⟩⟩
end
end Sg
set_option Elab.async false
set_option linter.all false
set_option maxRecDepth 100000
set_option maxHeartbeats 4000000
namespace Sg
open PySem PySem.Spec PyProof.Rows L2 StX
theorem ix_tupK {X : Cx} {K : PySem.W.Frag} (hK : X.K = K) : IxR X (rIxT K) := by subst hK; exact ix_tup
/-- a walk, whatever is done in its turns -/
theorem it_any {J : L2.It} {n : Nat} {G : Hp → Prop} {Y : Nat → Hp → V → Hp → Prop} (wk : Walk J n G Y) {g : TG} {σ0 : L2.St} {H0 : Hp} {Qd : Hp → Prop} (B : (Hp → Prop) → L2.St → Hp → Prop) (Pv : Nat → Hp → Prop) (h0 : Pv 0 H0) (hG : ∀ i H, i ≤ n → Pv i H → G H)
    (hs : ∀ i x H H', i < n → Pv i H → Y i H x H' → g x σ0 H' (B (Pv (i + 1)))) (hd : ∀ H, Pv n H → Qd H) :
    ∃ W : Nat → Nat → Hp → Prop, (∃ m, W 0 m H0) ∧ ∀ i m H, W i m H → (J.stop i H ∧ Qd H) ∨ (J.go i H ∧ ∃ Nx : Hp → Prop, (∀ H', Nx H' → ∃ m', m' < m ∧ W (i + 1) m' H') ∧ ∀ x H', J.yld i H x H' → g x σ0 H' (B Nx)) := by
  refine ⟨fun i m H => m = n - i ∧ i ≤ n ∧ Pv i H, ⟨n, by simp, Nat.zero_le _, h0⟩, ?_⟩
  rintro i m H ⟨rfl, hi, hp⟩
  have hg := hG i H hi hp
  rcases Nat.lt_or_eq_of_le hi with hlt | rfl
  · exact .inr ⟨wk.goes i H hlt hg, Pv (i + 1), fun H' p' => ⟨n - (i + 1), by omega, rfl, hlt, p'⟩, fun x H' y => hs i x H H' hlt hp (wk.yields i H x H' hlt hg y)⟩
  · exact .inl ⟨wk.stops H hg, hd H hp⟩
/-- what is started in a tick of a lap clashes with a piece behind it -/
def clashL (ws : List (List Int)) (lp : List Int) (t : Nat) : Prop :=
  ∃ kd : Nat, lp[t]? = some ((kd : Nat) : Int) ∧ ∃ o d : Nat, o < ws.length ∧ d ∈ barsN (wk ws kd) (wk ws o) ∧ lp[(t + d) % lp.length]? = some ((o : Nat) : Int)
section
variable {P : Program} {w : World} {K : PySem.W.Frag} {mg : Str → Option Value} {base : Heap}
def spClashL (K : PySem.W.Frag) (C : Addr) : Sp := fun vs H Q _ => ∃ (a b : Addr) (t : Nat) (ws : List (List Int)) (lp : List Int), vs = [.ref a, .ref b, .int t] ∧ LineAt K C H a ws ∧ SqT K H b (lp.map V.int) ∧ GoodLap ws.length lp ∧ t < lp.length ∧
  ∀ H' r, Same H H' → (r = true ↔ clashL ws lp t) → Q (.bl r) H'
abbrev clashN : List Str := ["line", "lap", "tick", "kind", "other", "bar"]
theorem ok_clashes {f C : Addr} {fd : FuncData} {k : Nat} (F : Fun K "_clashes" "_clashes" s_clashes f fd) (M : Meths2 P w K mg base k C) (hN : ∃ t, mg "NOTHING" = some (.int (-1) t)) (m1 : mg "any" = none) (m2 : mg "range" = none) (m3 : mg "len" = none) :
    FnOk P w K mg base CX0 (k + 3) f fd ["line", "lap", "tick"] (spClashL K C) := by
  obtain ⟨tN, nN⟩ := hN
  refine F.ok sc_clashes (fun vs H Q E h => ?_) (fun cdv A outer s H vs Q E hr h => ?_)
  · obtain ⟨a, b, t, ws, lp, rfl, _⟩ := h; rfl
  · obtain ⟨a, b, t, ws, lp, rfl, hL, hS, hg, ht, q⟩ := h
    refine ⟨_, pss_cons (ps_set (i := 3) sc_clashes.nd rfl (.inr rfl) (pe_ix ix_tup (pv 1) (pv 2) (fun _ _ => rfl)))
      (pss_cons (ps_if (pt_cmpR op_eq (pv 3) (pe_glob (v := .int (-1)) (by rfl) nN ⟨_, rfl⟩) (nomark _)) (pss_one (ps_ret pe_bl)) pss_nil)
      (pss_one (ps_ret (pe_callB (cr_any rfl) (by rfl) m1 (by decide +kernel) (pa_cons
        (pe_lc2 (own := [("other", 4), ("bar", 5)]) (vs1 := [5]) (g := gName 4) (g1 := gName 5) (tt := tYes) (tt1 := tYes) rfl sc_clashes.nd (pi_range1 (by rfl) m2 (pa_cons (pe_callB (M.m.cLen hr) (by rfl) m3 PySem.boot_len (pa_cons (pv 0) pa_nil)) pa_nil))
          (blkOk_by (N := clashN) (sc := defScope s_clashes) (by decide +kernel)) (by decide)
          (fun _ _ _ _ _ => pg_name (i := 4) sc_clashes.nd rfl (Or.inl rfl)) (fun _ _ _ _ _ => pts_nil)
          (fun _ _ _ _ _ => pi_tupK (K := K) rfl (M.m.pCall (K := K) rfl hr (pv 0) (pa_cons (pv 3) (pa_cons (pv 4) pa_nil))))
          (fun _ _ _ _ _ => pg_name (i := 5) sc_clashes.nd rfl (Or.inl rfl)) (fun _ _ _ _ _ => pts_nil)
          (fun _ _ _ _ _ => pe_cmpR op_eq (pe_ix (ix_tupK (K := K) rfl) (pv 1) (pe_op op_mod (pe_op op_add (pv 2) (pv 5)) (pe_callB (call_lenK (K := K) rfl) (by rfl) m3 PySem.boot_len (pa_cons (pv 1) pa_nil))) (fun _ _ => rfl)) (pv 4) (nomark _))) pa_nil))))), ?_⟩
    have ll : (lp.map V.int).length = lp.length := List.length_map _
    have few := hL.good.few
    obtain ⟨z, hz⟩ : ∃ z, lp[t]? = some z := ⟨lp[t], List.getElem?_eq_getElem ht⟩
    have atx : ∀ {j : Nat} {y : Int}, lp[j]? = some y → atI (lp.map V.int) ((j : Nat) : Int) = some (.int y) := fun {j y} h => atI_nat (by rw [List.getElem?_map, h]; rfl)
    refine ⟨.ref b, rfl, .int (t : Nat), rfl, b, _, (t : Nat), .int z, rfl, rfl, hS, atx hz, .int z, rfl, rfl, _, rfl, ite2 (fun e => ?_) (fun e => ?_)⟩
    · have ez : z = -1 := V.int.inj (of_decide_eq_true e)
      refine q H false (fun _ _ y => y) ⟨fun y => (nomatch y), fun ⟨kd, h1, _⟩ => ?_⟩
      rw [hz, ez] at h1
      have := Option.some.inj h1
      omega
    · have ez : z ≠ -1 := fun y => e (by rw [y]; exact decide_eq_true rfl)
      obtain ⟨z1, z2⟩ := hg.items z (List.mem_of_getElem? hz)
      obtain ⟨kd, rfl⟩ : ∃ kd : Nat, z = kd := ⟨z.toNat, by omega⟩
      have hk : kd < ws.length := by omega
      obtain ⟨x1, hx1⟩ : ∃ x, ws[kd]? = some x := ⟨ws[kd], List.getElem?_eq_getElem hk⟩
      have ex1 : wk ws kd = x1 := by unfold wk; rw [List.getD_eq_getElem?_getD, hx1]; rfl
      have lx1 := (hL.good.work x1 (List.mem_of_getElem? hx1)).most
      have lbars : ∀ y : List Int, (barsN x1 y).length ≤ 59 := fun y => by
        have := barsTo_len x1 y (x1.length - 1)
        exact Nat.le_trans this (by omega)
      refine ⟨.ref a, rfl, a, ws, rfl, hL, _, rfl, by omega, by omega, fun D hD => ?_⟩
      refine it_any (walk_range (lo := 0) (n := ((ws.length : Nat) : Int).toNat)) _ (fun i H' => Same H H' ∧ ∃ bs : List Bool, H' D = some (.lst (bs.map V.bl)) ∧ bs.length ≤ 60 * i ∧
          (bs.any id = true ↔ ∃ o d : Nat, o < i ∧ d ∈ barsN (wk ws kd) (wk ws o) ∧ lp[(t + d) % lp.length]? = some ((o : Nat) : Int)))
        ⟨same_new hD, [], upd_same, Nat.zero_le _, (fun y => (nomatch y)), fun ⟨o, d, y, _⟩ => absurd y (Nat.not_lt_zero _)⟩ (fun _ _ _ _ => trivial) (fun i x H1 H' hi h hY => ?_) (fun H' h => ?_)
      · obtain ⟨e1, bs, hD1, lb, hbs⟩ := h
        obtain ⟨rfl, rfl⟩ := hY
        have hiw : i < ws.length := by omega
        obtain ⟨x2, hx2⟩ : ∃ x, ws[i]? = some x := ⟨ws[i], List.getElem?_eq_getElem hiw⟩
        have ex2 : wk ws i = x2 := by unfold wk; rw [List.getD_eq_getElem?_getD, hx2]; rfl
        refine ⟨rfl, .ref a, rfl, a, rfl, .int (kd : Nat), rfl, .int (0 + i), rfl, ws, kd, i, x1, x2, by rw [Int.zero_add], hL.stay (.of e1), hx1, hx2, fun c hc => ⟨c, rfl, ⟨_, hc⟩, ?_⟩⟩
        refine it_any (walk_tup (K := K) (a := c) (xs := nV (barsN x1 x2))) _ (fun j H' => Same H H' ∧ SqT K H' c (nV (barsN x1 x2)) ∧ ∃ bs : List Bool, H' D = some (.lst (bs.map V.bl)) ∧ bs.length ≤ 60 * i + j ∧
            (bs.any id = true ↔ (∃ o d : Nat, o < i ∧ d ∈ barsN (wk ws kd) (wk ws o) ∧ lp[(t + d) % lp.length]? = some ((o : Nat) : Int)) ∨ ∃ d ∈ (barsN x1 x2).take j, lp[(t + d) % lp.length]? = some ((i : Nat) : Int)))
          ⟨e1, hc, bs, hD1, by omega, by rw [hbs]; exact ⟨.inl, fun y => y.elim id fun ⟨_, y, _⟩ => absurd y (by simp)⟩⟩ (fun j H' _ h => h.2.1) (fun j x H2 H' hj h hY => ?_) (fun H' h => ?_)
        · obtain ⟨e2, hc2, bs2, hD2, lb2, hbs2⟩ := h
          obtain ⟨rfl, hx⟩ := hY
          rw [List.getElem?_map] at hx
          obtain ⟨d, hd, rfl⟩ := Option.map_eq_some_iff.mp hx
          have hjb := (List.getElem?_eq_some_iff.mp hd).1
          have lbx := lbars x2
          have hm : (t + d) % lp.length < lp.length := Nat.mod_lt _ (by omega)
          obtain ⟨y, hy⟩ : ∃ y, lp[(t + d) % lp.length]? = some y := ⟨_, List.getElem?_eq_getElem hm⟩
          have em : (((t : Nat) : Int) + (d : Nat)) % (((lp.map V.int).length : Nat) : Int) = (((t + d) % lp.length : Nat) : Int) := by rw [ll]; first | rfl | exact (Int.natCast_emod (t + d) lp.length).symm | exact (Int.ofNat_emod (t + d) lp.length).symm
          have hS2 := Same.tup e2 hS
          refine ⟨rfl, .ref b, rfl, .int (t : Nat), rfl, .int (d : Nat), rfl, (t : Nat), (d : Nat), rfl, rfl, .ref b, rfl, b, _, rfl, .inr hS2, _, _, rfl, rfl, by omega, b, _, _, .int y, rfl, rfl, hS2, ?_, .int (0 + i), rfl, rfl, ?_⟩
          · rw [em]
            exact atx hy
          · refine ⟨_, hD2, ?_, fun u o e => ?_, tup_upd hD2 (fun _ z => nomatch z) (fun _ _ z => nomatch z) hc2, bs2 ++ [decide (V.int y = V.int (0 + (i : Nat)))], ?_, ?_, ?_⟩
            · rw [List.length_map]
              exact small1000 (by omega)
            · rw [upd_ne (ne_of_none e hD)]
              exact e2 _ _ e
            · rw [upd_same, List.map_append]
              rfl
            · rw [List.length_append]
              show bs2.length + 1 ≤ _
              omega
            · rw [List.any_append, Bool.or_eq_true, hbs2, List.take_add_one, hd]
              have one : ([decide (V.int y = V.int (0 + (i : Nat)))].any id = true) ↔ lp[(t + d) % lp.length]? = some ((i : Nat) : Int) := by
                rw [hy, List.any_cons, List.any_nil, Bool.or_false]
                show decide _ = true ↔ _
                rw [decide_eq_true_eq, Int.zero_add]
                exact ⟨fun u => by rw [V.int.inj u], fun u => by rw [Option.some.inj u]⟩
              rw [one]
              constructor
              · rintro ((u | ⟨d', hd', g⟩) | u)
                · exact .inl u
                · exact .inr ⟨d', List.mem_append_left _ hd', g⟩
                · exact .inr ⟨d, List.mem_append_right _ (List.mem_singleton.mpr rfl), u⟩
              · rintro (u | ⟨d', hd', g⟩)
                · exact .inl (.inl u)
                · rcases List.mem_append.mp hd' with u | u
                  · exact .inl (.inr ⟨d', u, g⟩)
                  · rw [List.mem_singleton.mp u] at g
                    exact .inr g
        · obtain ⟨e2, _, bs2, hD2, lb2, hbs2⟩ := h
          have ln : (nV (barsN x1 x2)).length = (barsN x1 x2).length := List.length_map _
          rw [ln] at lb2
          rw [ln, List.take_length] at hbs2
          have lbx := lbars x2
          refine ⟨e2, bs2, hD2, by omega, ?_⟩
          rw [hbs2]
          constructor
          · rintro (⟨o, d, u, v⟩ | ⟨d, u, v⟩)
            · exact ⟨o, d, by omega, v⟩
            · exact ⟨i, d, by omega, by rw [ex1, ex2]; exact u, v⟩
          · rintro ⟨o, d, u, v1, v2⟩
            by_cases ho : o < i
            · exact .inl ⟨o, d, ho, v1, v2⟩
            · have : o = i := by omega
              subst this
              rw [ex1, ex2] at v1
              exact .inr ⟨d, v1, v2⟩
      · obtain ⟨e2, bs2, hD2, lb2, hbs2⟩ := h
        refine ⟨D, _, rfl, .of hD2, q H' _ e2 ?_⟩
        rw [hbs2]
        constructor
        · rintro ⟨o, d, u, v⟩
          exact ⟨kd, hz, o, d, by omega, v⟩
        · rintro ⟨kd', h1, o, d, u, v⟩
          have : kd = kd' := by
            rw [hz] at h1
            have := Option.some.inj h1
            omega
          subst this
          exact ⟨o, d, by omega, v⟩
end
/-- no two of the pieces of a lap clash -/
def noClash (ws : List (List Int)) (lp : List Int) : Prop := ¬ ∃ t, t < lp.length ∧ clashL ws lp t
section
variable {P : Program} {w : World} {K : PySem.W.Frag} {mg : Str → Option Value} {base : Heap}
def spFits (K : PySem.W.Frag) (C : Addr) : Sp := fun vs H Q _ => ∃ (a b : Addr) (ws : List (List Int)) (lp : List Int), vs = [.ref a, .ref b] ∧ LineAt K C H a ws ∧ SqT K H b (lp.map V.int) ∧ GoodLap ws.length lp ∧ ∀ H' r, Same H H' → (r = true ↔ noClash ws lp) → Q (.bl r) H'
theorem ok_fits {f f1 f2 C : Addr} {fd fd1 fd2 : FuncData} {k : Nat} (F : Fun K "fits" "fits" s_fits f fd)
    (G1 : FnOk P w K mg base CX0 k f1 fd1 ["line", "thing"] (spReqLap K C)) (kp1 : PySem.W.keepIn K (.ref f1) = true) (b1 : Binds K fd1 ["line", "thing"] []) (g1 : mg "require_lap" = some (.ref f1))
    (G2 : FnOk P w K mg base CX0 k f2 fd2 ["line", "lap", "tick"] (spClashL K C)) (kp2 : PySem.W.keepIn K (.ref f2) = true) (b2 : Binds K fd2 ["line", "lap", "tick"] []) (g2 : mg "_clashes" = some (.ref f2))
    (m1 : mg "any" = none) (m2 : mg "range" = none) (m3 : mg "len" = none) : FnOk P w K mg base CX0 (k + 1) f fd ["line", "lap"] (spFits K C) := by
  refine F.ok sc_fits (fun vs H Q E h => ?_) (fun cdv A outer s H vs Q E hr h => ?_)
  · obtain ⟨a, b, ws, lp, rfl, _⟩ := h; rfl
  · obtain ⟨a, b, ws, lp, rfl, hL, hS, hg, q⟩ := h
    refine ⟨_, pss_cons (ps_expr (pe_call G1 hr (by rfl) g1 kp1 b1 .nil pass0 (pa_cons (pv 0) (pa_cons (pv 1) pa_nil))))
      (pss_one (ps_ret (pe_not (pe_callB (cr_any rfl) (by rfl) m1 (by decide +kernel) (pa_cons
        (pe_lc (own := [("tick", 2)]) (g := gName 2) (tt := tYes) rfl sc_fits.nd (pi_range1 (by rfl) m2 (pa_cons (pe_callB call_len_seq (by rfl) m3 PySem.boot_len (pa_cons (pv 1) pa_nil)) pa_nil)) (blkOk_by (N := ["line", "lap", "tick"]) (sc := defScope s_fits) (by decide +kernel))
          (fun _ _ _ _ _ => pg_name (i := 2) sc_fits.nd rfl (Or.inl rfl)) (fun _ _ _ _ _ => pts_nil)
          (fun _ _ _ _ _ => pe_call G2 hr (by rfl) g2 kp2 b2 .nil pass0 (pa_cons (pv 0) (pa_cons (pv 1) (pa_cons (pv 2) pa_nil))))) pa_nil))))), ?_⟩
    have ll : (lp.map V.int).length = lp.length := List.length_map _
    have l2 := hg.most
    refine ⟨.ref a, rfl, .ref b, rfl, a, b, ws, lp, rfl, hL, hS, hg, fun H1 e1 => ?_⟩
    refine ⟨.ref b, rfl, b, _, rfl, .inr (Same.tup e1 hS), _, rfl, by omega, by omega, fun D hD => ?_⟩
    refine lc_range (lo := 0) (n := (((lp.map V.int).length : Nat) : Int).toNat) (fun i H' => Same H1 H' ∧ ∃ bs : List Bool, H' D = some (.lst (bs.map V.bl)) ∧ bs.length = i ∧ (bs.any id = true ↔ ∃ t, t < i ∧ clashL ws lp t))
      ⟨same_new hD, [], upd_same, rfl, (fun y => (nomatch y)), fun ⟨t, y, _⟩ => absurd y (Nat.not_lt_zero _)⟩ (fun i H' hi h => ?_) (fun H' h => ?_)
    · obtain ⟨e2, bs, hD2, lb, hbs⟩ := h
      have hi2 : i < lp.length := by omega
      refine ⟨rfl, .ref a, rfl, .ref b, rfl, .int (0 + i), rfl, a, b, i, ws, lp, by rw [Int.zero_add]; rfl, hL.stay (.of (e1.trans e2)), Same.tup (e1.trans e2) hS, hg, hi2, fun H3 r e3 hr => ?_⟩
      refine ⟨_, e3 _ _ hD2, ?_, fun u o e => ?_, bs ++ [r], ?_, ?_, ?_⟩
      · rw [List.length_map]
        exact small1000 (by omega)
      · rw [upd_ne (ne_of_none e hD)]
        exact e3 _ _ (e2 _ _ e)
      · rw [upd_same, List.map_append]
        rfl
      · rw [List.length_append, lb]
        rfl
      · rw [List.any_append, Bool.or_eq_true, hbs]
        have one : ([r].any id = true) ↔ clashL ws lp i := by
          rw [← hr, List.any_cons, List.any_nil, Bool.or_false]
          rfl
        rw [one]
        constructor
        · rintro (⟨t, u, v⟩ | u)
          · exact ⟨t, by omega, v⟩
          · exact ⟨i, by omega, u⟩
        · rintro ⟨t, u, v⟩
          by_cases ht : t < i
          · exact .inl ⟨t, ht, v⟩
          · rw [show t = i by omega] at v
            exact .inr v
    · obtain ⟨e2, bs, hD2, lb, hbs⟩ := h
      rw [ll] at lb hbs
      rw [Int.toNat_natCast] at lb hbs
      refine ⟨D, bs, rfl, .of hD2, _, rfl, q H' _ (e1.trans e2) ?_⟩
      unfold noClash
      rw [← hbs]
      cases bs.any id <;> simp
end
end Sg
set_option Elab.async false
set_option linter.all false
set_option maxRecDepth 100000
set_option maxHeartbeats 4000000
namespace Sg
open PySem PySem.Spec PyProof.Rows L2 StX
theorem op_in_seqK {X : Cx} {K : PySem.W.Frag} (hK : X.K = K) : OpR X (compareOp .In) (rIn K false) := by subst hK; exact op_in_seq
theorem op_notInDK {X : Cx} {K : PySem.W.Frag} (hK : X.K = K) (hu : X.A.units + 65 < cLine) : OpR X (compareOp .NotIn) (rNotInD K) := by subst hK; exact op_notInD hu
theorem inV_ints (x : Int) (xs : List Int) : inV (.int x) (xs.map V.int) = decide (x ∈ xs) := by
  unfold inV
  induction xs with
  | nil => rfl
  | cons y ys ih =>
    rw [List.map_cons, List.any_cons, ih]
    show (decide (y = x) || decide (x ∈ ys)) = decide (x ∈ y :: ys)
    by_cases h : y = x
    · simp [h]
    · have : ¬ x = y := fun e => h e.symm
      simp [h, this]
theorem flat_ints : ∀ xs : List Int, (xs.map V.int).all flatV = true
  | [] => rfl
  | x :: xs => by show (flatV (.int x) && (xs.map V.int).all flatV) = true; rw [flat_ints xs]; rfl
section
variable {P : Program} {w : World} {K : PySem.W.Frag} {mg : Str → Option Value} {base : Heap}
/-! ### _needed_places -/
def spNeeded (K : PySem.W.Frag) : Sp := fun vs H Q _ => ∃ (c l : Addr) (coming : List Int) (us : List V) (ps : List Plc), vs = [.ref c, .ref l] ∧ SqT K H c (coming.map V.int) ∧ H l = some (.lst us) ∧ PlsAt H us ps ∧ ps.length ≤ 1000 ∧
  ∀ H' t, Same H H' → TkAt H' t (needed coming ps) → Q (.ref t) H'
theorem ok_needed {f : Addr} {fd : FuncData} {k : Nat} (F : Fun K "_needed_places" "_needed_places" s_needed_places f fd) (nN : ∃ t, mg "NOWHERE" = some (.int (-1) t)) (m1 : mg "tuple" = none) (m2 : mg "sorted" = none) :
    FnOk P w K mg base CX0 (k + 1) f fd ["coming", "places"] (spNeeded K) := by
  obtain ⟨tN, nN⟩ := nN
  refine F.ok sc_needed_places (fun vs H Q E h => ?_) (fun cdv A outer s H vs Q E hr h => ?_)
  · obtain ⟨c, l, coming, us, ps, rfl, _⟩ := h; rfl
  · obtain ⟨c, l, coming, us, ps, rfl, hc, hl, hp, few, q⟩ := h
    refine ⟨_, pss_one (ps_ret (pe_callTy call_tuple_of (by rfl) m1 (by decide +kernel) (pa_cons (pe_callB (cr_sortedD hr) (by rfl) m2 (by decide +kernel) (pa_cons
      (pe_lc (own := [("station", 2), ("ago", 3)]) (g := gTup K 2 (gCons (gName 2) (gCons (gName 3) gNil))) rfl sc_needed_places.nd (pi_list (pv 1)) (blkOk_by (N := ["coming", "places", "station", "ago"]) (sc := defScope s_needed_places) (by decide +kernel))
        (fun _ _ _ _ _ => pg_tup rfl (pgs_cons (pg_name (i := 2) sc_needed_places.nd rfl (Or.inl rfl)) (pgs_cons (pg_name (i := 3) sc_needed_places.nd rfl (Or.inl rfl)) pgs_nil)))
        (fun _ _ _ _ _ => pts_one (PW.pt (pw_and (pt_cmpR (op_in_seqK (K := K) rfl) (pv 2) (pv 0) (by with_unfolding_all rfl)) (pw_and1 (pt_cmpR op_ne (pv 2) (pe_glob (v := .int (-1)) (by rfl) nN ⟨_, rfl⟩) (nomark _))))))
        (fun _ _ _ _ _ => pe_tup (pa_cons (pv 2) (pa_cons (pv 3) pa_nil)))) pa_nil)) pa_nil))), ?_⟩
    have big : 1000 ≤ sizeLine := by rw [sizeLine_eq]; decide
    have lus := hp.len
    refine ⟨.ref l, rfl, l, rfl, ⟨_, .of hl⟩, fun D nD => ?_⟩
    refine lc_list (xs := us) (fun i H' => Same H H' ∧ ∃ ys, H' D = some (.lst ys) ∧ PlsAt H' ys ((ps.take i).filter fun p => decide (p.1 ∈ coming) && decide (p.1 ≠ -1))) ⟨same_new nD, [], upd_same, .nil⟩ (fun i H' _ h => .of (h.1 _ _ hl)) (fun i x H' hx h => ?_) (fun H' h => ?_)
    · obtain ⟨e, ys, hD, hY⟩ := h
      obtain ⟨cc, p, rfl, hpi, hcc⟩ := hp.at hx
      have hi := (List.getElem?_eq_some_iff.mp hpi).1
      have lys := hY.len
      have lf := List.length_filter_le (fun p : Plc => decide (p.1 ∈ coming) && decide (p.1 ≠ -1)) (ps.take i)
      rw [List.length_take] at lf
      refine ⟨cc, _, rfl, .of (e _ _ hcc), rfl, _, _, rfl, _, _, rfl, rfl, rfl, ?_⟩
      refine ⟨.int p.1, rfl, .ref c, rfl, c, _, rfl, .inr (Same.tup e hc), rfl, flat_ints _, _, rfl, ?_⟩
      rw [show (if false = true then !inV (V.int p.1) (coming.map V.int) else inV (V.int p.1) (coming.map V.int)) = decide (p.1 ∈ coming) from inV_ints p.1 coming]
      have snocF : (ps.take (i + 1)).filter (fun p => decide (p.1 ∈ coming) && decide (p.1 ≠ -1)) = (ps.take i).filter (fun p => decide (p.1 ∈ coming) && decide (p.1 ≠ -1)) ++ (if (decide (p.1 ∈ coming) && decide (p.1 ≠ -1)) = true then [p] else []) := by
        rw [List.take_add_one, hpi, List.filter_append]
        congr 1
        show List.filter _ [p] = _
        rw [List.filter_cons]; rfl
      cases h1 : decide (p.1 ∈ coming) with
      | false =>
        refine iteF ⟨e, ys, hD, ?_⟩
        rw [snocF, h1]
        simpa using hY
      | true =>
        refine iteT ⟨.int p.1, rfl, rfl, _, rfl, ?_⟩
        by_cases h2 : p.1 = -1
        · rw [show (!decide (V.int p.1 = V.int (-1))) = false from by rw [decide_eq_true (by rw [h2])]; rfl]
          refine iteF ⟨e, ys, hD, ?_⟩
          rw [snocF, h1, decide_eq_false (by omega)]
          simpa using hY
        · rw [show (!decide (V.int p.1 = V.int (-1))) = true from by rw [decide_eq_false (fun z => h2 (V.int.inj z))]; rfl]
          refine iteT ⟨.int p.1, rfl, .int p.2, rfl, by show 2 ≤ sizeLine; omega, fun t nt => ?_⟩
          have et := same_new (o := .tup [V.int p.1, .int p.2]) nt
          have hD2 := et _ _ hD
          refine ⟨ys, hD2, by rw [lys]; omega, fun b o z => ?_, ys ++ [.ref t], upd_same, ?_⟩
          · rw [upd_ne (ne_of_none z nD)]
            exact et _ _ (e _ _ z)
          · rw [snocF, h1, decide_eq_true h2]
            have k1 : KeepT (upd H' t (.tup [V.int p.1, .int p.2])) (upd (upd H' t (.tup [V.int p.1, .int p.2])) D (.lst (ys ++ [.ref t]))) := .upd hD2 fun _ z => nomatch z
            have tt : (upd H' t (.tup [V.int p.1, .int p.2])) t = some (.tup [V.int p.1, .int p.2]) := upd_same
            exact ((hY.keep (.of et)).keep k1).snoc (k1 _ _ tt)
    · obtain ⟨e, ys, hD, hY⟩ := h
      rw [show us.length = ps.length from lus, List.take_length] at hY
      have lys := hY.len
      have lf := List.length_filter_le (fun p : Plc => decide (p.1 ∈ coming) && decide (p.1 ≠ -1)) ps
      have al : PySem.W.AllAlike (plsD (ps.filter fun p => decide (p.1 ∈ coming) && decide (p.1 ≠ -1))) := PySem.W.AllAlike.of (enc := plD) (bs := ps.filter _) alike_pl
      refine ⟨D, ys, plsD (ps.filter fun p => decide (p.1 ∈ coming) && decide (p.1 ≠ -1)), rfl, .of hD, hY.dp, al, PySem.W.Sortable.tuples (enc := plD) fun b => ⟨_, _, rfl⟩, fun d hd => ?_, fun bs p hbs np => ?_⟩
      · obtain ⟨x, _, rfl⟩ := List.mem_map.mp hd
        simp [PyData.depth, PyData.depthAll]
      · have hsnd : bs.map (·.2) = plsD (needed coming ps) := by rw [hbs]; exact sort_pls lys
        have hmem : ∀ b ∈ bs, ∃ c p, b = (.ref c, plD p) ∧ H' c = some (.tup [.int p.1, .int p.2]) := fun b hb => by
          rw [hbs] at hb
          exact hY.zip b ((List.mergeSort_perm _ _).mem_iff.mp hb)
        have hS := pls_sorted hmem hsnd
        have e1 := same_new (o := .lst (bs.map (·.1))) np
        refine ⟨p, _, rfl, .inl ⟨.of upd_same, fun t nt => ?_⟩⟩
        have e2 := same_new (o := .tup (bs.map (·.1))) nt
        exact q _ t (e.trans (e1.trans e2)) ⟨_, upd_same, hS.keep (.of (e1.trans e2))⟩
end
end Sg
set_option Elab.async false
set_option linter.all false
set_option maxRecDepth 100000
set_option maxHeartbeats 4000000
namespace Sg
open PySem PySem.Spec PyProof.Rows L2 StX
theorem lay_pls : ∀ ps : List Plc, PyData.canLayAll0 (plsD ps) = true
  | [] => by simp [PyData.canLayAll0]
  | p :: ps => by
    have := lay_pls ps
    simp [PyData.canLayAll0, PyData.canLay0, this]
theorem shaped_pls (ps : List Plc) : SeqAt.shaped (.list (plsD ps)) = true := by
  unfold SeqAt.shaped
  have h1 : (PyData.list (plsD ps)).canLay0 = true := by simp only [PyData.canLay0]; exact lay_pls ps
  have h2 : (PyData.list (plsD ps)).depth ≤ 64 := by
    simp only [PyData.depth]
    have := depth_pls ps
    omega
  rw [h1, decide_eq_true h2]
  rfl
theorem any_pls (ps : List Plc) (p : Plc) : (plsD ps).any (fun z => PyData.eqv z (plD p)) = decide (p ∈ ps) := by
  induction ps with
  | nil => rfl
  | cons q r ih =>
    show (PyData.eqv (plD q) (plD p) || (plsD r).any _) = _
    rw [ih, eqv_pl]
    by_cases h : q = p
    · simp [h]
    · have : ¬ p = q := fun e => h e.symm
      simp [h, this]
/-- a wait and what is taken then -/
def NxAt (H : Hp) (v : V) (w : Int × List Plc) : Prop := ∃ r t, v = .ref r ∧ H r = some (.tup [.int w.1, .ref t]) ∧ TkAt H t w.2
theorem NxAt.keep {H H' : Hp} (e : KeepT H H') {v : V} {w : Int × List Plc} (h : NxAt H v w) : NxAt H' v w := by
  obtain ⟨r, t, h1, h2, h3⟩ := h
  exact ⟨r, t, h1, e _ _ h2, h3.keep e⟩
inductive NxAll (H : Hp) : List V → List (Int × List Plc) → Prop
  | nil : NxAll H [] []
  | cons {v : V} {w : Int × List Plc} {vs : List V} {ws : List (Int × List Plc)} : NxAt H v w → NxAll H vs ws → NxAll H (v :: vs) (w :: ws)
theorem NxAll.keep {H H' : Hp} (e : KeepT H H') : ∀ {vs : List V} {ws : List (Int × List Plc)}, NxAll H vs ws → NxAll H' vs ws
  | _, _, .nil => .nil
  | _, _, .cons h r => .cons (h.keep e) (NxAll.keep e r)
theorem NxAll.snoc {H : Hp} {v : V} {w : Int × List Plc} (h : NxAt H v w) : ∀ {vs : List V} {ws : List (Int × List Plc)}, NxAll H vs ws → NxAll H (vs ++ [v]) (ws ++ [w])
  | _, _, .nil => .cons h .nil
  | _, _, .cons a r => .cons a (NxAll.snoc h r)
theorem NxAll.len {H : Hp} : ∀ {vs : List V} {ws : List (Int × List Plc)}, NxAll H vs ws → vs.length = ws.length
  | _, _, .nil => rfl
  | _, _, .cons _ r => congrArg (· + 1) (NxAll.len r)
theorem NxAll.at {H : Hp} : ∀ {vs : List V} {ws : List (Int × List Plc)} {i : Nat} {v : V}, NxAll H vs ws → vs[i]? = some v → ∃ w, ws[i]? = some w ∧ NxAt H v w
  | _, _, 0, _, .cons h _, e => by cases e; exact ⟨_, rfl, h⟩
  | _, _, i + 1, _, .cons _ r, e => NxAll.at (i := i) r e
section
variable {P : Program} {w : World} {K : PySem.W.Frag} {mg : Str → Option Value} {base : Heap}
/-! ### _next_taken -/
def spNext (K : PySem.W.Frag) : Sp := fun vs H Q _ => ∃ (a t : Addr) (ns : List Int) (d at_ : Nat) (tk : List Plc), vs = [.ref a, .int (d : Nat), .int (at_ : Nat), .ref t] ∧ SqT K H a (ns.map V.int) ∧ TkAt H t tk ∧ 1 ≤ d ∧ d ≤ 100 ∧ at_ < ns.length ∧ tk.length ≤ 900 ∧
  ∀ H' l us, Same H H' → H l = none → H' l = some (.lst us) → NxAll H' us (nextTaken ns d at_ tk) → Q (.ref l) H'
abbrev nxN : List Str := ["work", "distance", "at", "taken", "station", "found", "wait", "moved", "other", "ago"]
theorem ok_next {f f1 : Addr} {fd fd1 : FuncData} {k : Nat} (F : Fun K "_next_taken" "_next_taken" s_next_taken f fd)
    (G1 : FnOk P w K mg base CX0 k f1 fd1 ["coming", "places"] (spNeeded K)) (kp1 : PySem.W.keepIn K (.ref f1) = true) (b1 : Binds K fd1 ["coming", "places"] []) (g1 : mg "_needed_places" = some (.ref f1))
    (m1 : mg "range" = none) : FnOk P w K mg base CX0 (k + 1) f fd ["work", "distance", "at", "taken"] (spNext K) := by
  refine F.ok sc_next_taken (fun vs H Q E h => ?_) (fun cdv A outer s H vs Q E hr h => ?_)
  · obtain ⟨a, t, ns, d, at_, tk, rfl, _⟩ := h; rfl
  · obtain ⟨a, t, ns, d, at_, tk, rfl, ha, ht, d1, d2, hat, few, q⟩ := h
    have hu65 : (A.deeper (envOfC "_next_taken" (defScope s_next_taken) s.heap.objs.size f cdv)).units + 65 < cLine := by have := hr.un; omega
    refine ⟨_, pss_cons (ps_set (i := 4) sc_next_taken.nd rfl (by first | exact .inl rfl | exact .inr rfl) (pe_ix ix_tup (pv 0) (pv 2) (fun _ _ => rfl)))
      (pss_cons (ps_set (i := 5) sc_next_taken.nd rfl (by first | exact .inl rfl | exact .inr rfl) (pe_lst pa_nil))
      (pss_cons (ps_for PassesOwn.never rfl (pi_range1 (by rfl) m1 (pa_cons (pv 1) pa_nil)) (pg_name (i := 6) sc_next_taken.nd rfl (by first | exact .inl rfl | exact .inr rfl))
        (pss_cons (ps_setLc (i := 7) (own := [("other", 8), ("ago", 9)]) (g := gTup K 2 (gCons (gName 8) (gCons (gName 9) gNil))) (tt := tYes) rfl sc_next_taken.nd rfl rfl (sw_true rfl rfl rfl (by decide +kernel)) (pi_tup (pv 3)) (blkOk_by (N := nxN) (sc := defScope s_next_taken) (by decide +kernel))
            (fun _ _ _ _ _ => pg_tup rfl (pgs_cons (pg_name (i := 8) sc_next_taken.nd rfl (Or.inl rfl)) (pgs_cons (pg_name (i := 9) sc_next_taken.nd rfl (Or.inl rfl)) pgs_nil))) (fun _ _ _ _ _ => pts_nil)
            (fun _ _ _ _ _ => pe_tup (pa_cons (pv 8) (pa_cons (pe_op op_mod (pe_op op_add (pe_op op_add (pv 9) (pv 6)) pe_int) (pv 1)) pa_nil))))
        (pss_one (ps_if (pt_cmpR (op_notInDK (K := K) rfl hu65) (pe_tup (pa_cons (pv 4) (pa_cons pe_int pa_nil))) (pv 7) (by with_unfolding_all rfl))
          (pss_one (ps_expr (pe_bm PySem.F.plainAttrs_list PySem.F.slot_list_append PySem.F.type_list_append mt_append (pv 5) (pa_cons (pe_tup (pa_cons (pv 6) (pa_cons
            (pe_call G1 hr (by rfl) g1 kp1 b1 .nil pass0 (pa_cons (pe_slice (sl_tupB (K := K) rfl) (pv 0) (po_some (pe_op op_add (pv 2) pe_int)) po_none) (pa_cons (pe_lst (pa_star (pv 7) (pa_cons (pe_tup (pa_cons (pv 4) (pa_cons pe_int pa_nil))) pa_nil))) pa_nil))) pa_nil))) pa_nil)))) pss_nil))))
      (pss_one (ps_ret (pv 5))))), ?_⟩
    have big : 1000 ≤ sizeLine := by rw [sizeLine_eq]; decide
    obtain ⟨st, hst⟩ : ∃ st, ns[at_]? = some st := ⟨_, List.getElem?_eq_getElem hat⟩
    have est : ns.getD at_ 0 = st := by rw [List.getD_eq_getElem?_getD, hst]; rfl
    refine ⟨.ref a, rfl, .int (at_ : Nat), rfl, a, _, (at_ : Nat), .int st, rfl, rfl, ha, atI_nat (by rw [List.getElem?_map, hst]; rfl), ?_⟩
    refine ⟨Nat.zero_le _, fun Fd nF => ?_⟩
    have e1 : Same H (upd H Fd (.lst [])) := same_new nF
    have hF1 : (upd H Fd (.lst [])) Fd = some (.lst []) := upd_same
    generalize upd H Fd (.lst []) = H1 at e1 hF1 ⊢
    refine ⟨.int (d : Nat), rfl, (d : Nat), rfl, by omega, by omega, ?_⟩
    refine for_range (lo := 0) (n := ((d : Nat) : Int).toNat) (fun i σ H' => ∃ v6 v7 us, σ = [some (.ref a), some (.int (d : Nat)), some (.int (at_ : Nat)), some (.ref t), some (.int st), some (.ref Fd), v6, v7, none, none] ∧ Same H H' ∧ H' Fd = some (.lst us) ∧ NxAll H' us ((List.range i).filterMap (nextOne ns d at_ tk)))
      ⟨_, _, [], rfl, e1, hF1, .nil⟩ ?_ ?_
    rotate_left
    · rintro σ H2 ⟨v6, v7, us, rfl, e2, hF2, hN⟩
      rw [show ((d : Nat) : Int).toNat = d from Int.toNat_natCast d] at hN
      exact ⟨.ref Fd, rfl, q H2 Fd us e2 nF hF2 hN⟩
    rintro i σ H2 hi ⟨v6, v7, us, rfl, e2, hF2, hN⟩
    have hi : i < d := by rw [show ((d : Nat) : Int).toNat = d from Int.toNat_natCast d] at hi; exact hi
    have e0 : (0 : Int) + (i : Nat) = (i : Nat) := Int.zero_add _
    rw [e0]
    have lus := hN.len
    have lfm := List.length_filterMap_le (nextOne ns d at_ tk) (List.range i)
    rw [List.length_range] at lfm
    obtain ⟨ts, hts, hpl⟩ := ht.keep (.of e2)
    -- where all pieces are, one tick and the wait later
    refine ⟨.ref t, rfl, t, rfl, ⟨_, .of hts⟩, fun D nD => ?_⟩
    have nDH : H D = none := freeS e2 nD
    refine lc_tup (xs := ts) (fun j H' => Same H2 H' ∧ ∃ ys, H' D = some (.lst ys) ∧ PlsAt H' ys (movedBy d i (tk.take j))) ⟨same_new nD, [], upd_same, .nil⟩ (fun j H' _ h => .of (h.1 _ _ hts)) (fun j x H' hx h => ?_) (fun H3 h => ?_)
    · obtain ⟨e, ys, hD, hY⟩ := h
      obtain ⟨cc, p, rfl, hpi, hcc⟩ := hpl.at hx
      have hj := (List.getElem?_eq_some_iff.mp hpi).1
      have lys := hY.len
      unfold movedBy at lys
      rw [List.length_map, List.length_take] at lys
      refine ⟨cc, _, rfl, .of (e _ _ hcc), rfl, _, _, rfl, _, _, rfl, rfl, rfl, ?_⟩
      refine ⟨.int p.1, rfl, .int p.2, rfl, .int (i : Nat), rfl, p.2, (i : Nat), rfl, rfl, _, 1, rfl, rfl, .int (d : Nat), rfl, _, (d : Nat), rfl, rfl, by show (0 : Int) < (d : Nat); omega, by show 2 ≤ sizeLine; omega, fun u nu => ?_⟩
      have et := same_new (o := .tup [V.int p.1, .int ((p.2 + (i : Int) + 1) % (d : Int))]) nu
      have hD2 := et _ _ hD
      refine ⟨ys, hD2, by omega, fun b o z => ?_, ys ++ [.ref u], upd_same, ?_⟩
      · rw [upd_ne (ne_of_none z nD)]
        exact et _ _ (e _ _ z)
      · have k1 : KeepT (upd H' u (.tup [V.int p.1, .int ((p.2 + (i : Int) + 1) % (d : Int))])) (upd (upd H' u (.tup [V.int p.1, .int ((p.2 + (i : Int) + 1) % (d : Int))])) D (.lst (ys ++ [.ref u]))) := .upd hD2 fun _ z => nomatch z
        have tt : (upd H' u (.tup [V.int p.1, .int ((p.2 + (i : Int) + 1) % (d : Int))])) u = some (.tup [V.int p.1, .int ((p.2 + (i : Int) + 1) % (d : Int))]) := upd_same
        have := ((hY.keep (.of et)).keep k1).snoc (p := (p.1, (p.2 + (i : Int) + 1) % (d : Int))) (k1 _ _ tt)
        unfold movedBy at this ⊢
        rw [List.take_add_one, hpi, List.map_append]
        exact this
    obtain ⟨e3, ms, hM, hY⟩ := h
    rw [show ts.length = tk.length from hpl.len, List.take_length] at hY
    have lms := hY.len
    have lmv : (movedBy d i tk).length = tk.length := by unfold movedBy; rw [List.length_map]
    -- whether its station is free
    refine ⟨.int st, rfl, by show 2 ≤ sizeLine; omega, fun u nu => ⟨.ref D, rfl, plD (st, 0), plsD (movedBy d i tk), (Tp.ofInts (ns := [st, 0]) (.of upd_same)).dp, .lst (.of (same_new nu _ _ hM)) (hY.keep (.of (same_new nu))).dp, shaped_tD _, shaped_pls _, _, rfl, ?_⟩⟩
    have eu := same_new (o := .tup [V.int st, .int 0]) nu
    have e34 := e3.trans eu
    have hM4 := eu _ _ hM
    have hY4 := hY.keep (.of eu)
    generalize upd H3 u (.tup [V.int st, .int 0]) = H4 at eu e34 hM4 hY4 ⊢
    rw [any_pls]
    have stepR : (List.range (i + 1)).filterMap (nextOne ns d at_ tk) = (List.range i).filterMap (nextOne ns d at_ tk) ++ (nextOne ns d at_ tk i).toList := by
      rw [List.range_succ, List.filterMap_append]
      cases h : nextOne ns d at_ tk i <;> simp [List.filterMap_cons, h]
    by_cases hin : (st, 0) ∈ movedBy d i tk
    · rw [decide_eq_true hin]
      refine iteF ⟨_, _, us, rfl, e2.trans e34, e34 _ _ hF2, ?_⟩
      rw [stepR, show nextOne ns d at_ tk i = none from by unfold nextOne; rw [est, if_pos hin]]
      simpa using hN.keep (.of e34)
    · rw [decide_eq_false hin]
      refine iteT ⟨.ref Fd, rfl, .inl ⟨rfl, _, .of (e34 _ _ hF2)⟩, .int (i : Nat), rfl, .ref a, rfl, .int (at_ : Nat), rfl, (at_ : Nat), 1, rfl, rfl, _, rfl, a, _, rfl, Same.tup (e2.trans e34) ha, fun H5 c5 e5 hc5 => ?_⟩
      rw [show ((at_ : Nat) : Int) + 1 = ((at_ + 1 : Nat) : Int) from rfl, cut_from, ← List.map_drop] at hc5
      refine ⟨.ref D, rfl, D, ms, rfl, .inr (.of (e5 _ _ hM4)), .int st, rfl, by show 2 ≤ sizeLine; omega, fun u2 nu2 => ⟨by rw [List.length_append]; show _ + 1 ≤ sizeLine; omega, fun L nL => ?_⟩⟩
      have ea := same_new (o := .tup [V.int st, .int 0]) nu2
      have eb := same_new (o := .lst (ms ++ [.ref u2])) nL
      have hL : (upd (upd H5 u2 (.tup [V.int st, .int 0])) L (.lst (ms ++ [.ref u2]))) L = some (.lst (ms ++ [.ref u2])) := upd_same
      have hu2 : (upd (upd H5 u2 (.tup [V.int st, .int 0])) L (.lst (ms ++ [.ref u2]))) u2 = some (.tup [V.int st, .int 0]) := eb _ _ upd_same
      have eab := e5.trans (ea.trans eb)
      have hY6 := (hY4.keep (.of eab)).snoc (p := (st, 0)) hu2
      generalize upd (upd H5 u2 (.tup [V.int st, .int 0])) L (.lst (ms ++ [.ref u2])) = H6 at ea eb hL hu2 eab hY6 ⊢
      refine ⟨c5, L, _, _, _, rfl, Same.tup (ea.trans eb) hc5, hL, hY6, by rw [List.length_append, lmv]; show _ + 1 ≤ _; omega, fun H7 r e7 hr7 => ⟨by show 2 ≤ sizeLine; omega, fun x nx => ?_⟩⟩
      have ex := same_new (o := .tup [V.int (i : Nat), .ref r]) nx
      have eall := e34.trans (eab.trans (e7.trans ex))
      have hF8 := eall _ _ hF2
      have hx8 : (upd H7 x (.tup [V.int (i : Nat), .ref r])) x = some (.tup [V.int (i : Nat), .ref r]) := upd_same
      refine ⟨Fd, us, _, rfl, rfl, hF8, by omega, ?_⟩
      have k8 : KeepT (upd H7 x (.tup [V.int (i : Nat), .ref r])) (upd (upd H7 x (.tup [V.int (i : Nat), .ref r])) Fd (.lst (us ++ [.ref x]))) := .upd hF8 fun _ z => nomatch z
      refine ⟨_, _, us ++ [.ref x], rfl, fun b o z => ?_, upd_same, ?_⟩
      · rw [upd_ne (ne_of_none z nF)]
        exact eall _ _ (e2 _ _ z)
      · rw [stepR, show nextOne ns d at_ tk i = some ((i : Int), needed (ns.drop (at_ + 1)) (movedBy d i tk ++ [(st, 0)])) from by unfold nextOne; rw [est, if_neg hin]]
        exact (hN.keep ((KeepT.of eall).trans k8)).snoc ⟨x, r, rfl, k8 _ _ hx8, (hr7.keep (.of ex)).keep k8⟩
end
end Sg
set_option Elab.async false
set_option linter.all false
set_option maxRecDepth 100000
set_option maxHeartbeats 4000000
namespace Sg
open PySem PySem.Spec PyProof.Rows L2 StX
/-! ## the queue's rules, on items -/
def gI (z : V × It) : V × PyData := (z.1, itD z.2)
theorem gI_push (zs : List (V × It)) (z : V × It) : (pushH ltV (zs.map gI) (gI z)).map Prod.fst = (pushH ltI zs z).map Prod.fst := by
  rw [← pushH_map (lt := ltI) (lt' := ltV) (f := gI) ltI_eq, List.map_map]; rfl
theorem gI_rest (zs : List (V × It)) : (restH ltV (zs.map gI)).map Prod.fst = (restH ltI zs).map Prod.fst := by
  rw [← restH_map (lt := ltI) (lt' := ltV) (f := gI) ltI_eq, List.map_map]; rfl
theorem push_snd (zs : List (V × It)) (z : V × It) : (pushH ltI zs z).map Prod.snd = pushH itLt (zs.map Prod.snd) z.2 :=
  pushH_map (lt := ltI) (lt' := itLt) (f := Prod.snd) (fun _ _ => rfl) zs z
theorem rest_snd (zs : List (V × It)) : (restH ltI zs).map Prod.snd = restH itLt (zs.map Prod.snd) :=
  restH_map (lt := ltI) (lt' := itLt) (f := Prod.snd) (fun _ _ => rfl) zs
theorem gI_fst (zs : List (V × It)) : (zs.map gI).map Prod.fst = zs.map Prod.fst := by rw [List.map_map]; rfl
theorem gI_dp {K : PySem.W.Frag} {H : Hp} {l : Addr} {zs : List (V × It)} (h : QAt H l zs) : ∀ z ∈ zs.map gI, Dp K H z.1 z.2 := fun x hx => by
  obtain ⟨y, hy, rfl⟩ := List.mem_map.mp hx
  exact (h.2 y hy).dp
theorem gI_alk (zs : List (V × It)) : Alk ((zs.map gI).map Prod.snd) := by
  rw [List.map_map]
  have := alk_its (zs.map Prod.snd)
  rw [List.map_map] at this
  exact this
theorem gI_alk1 (it : It) (zs : List (V × It)) : Alk (itD it :: (zs.map gI).map Prod.snd) := by
  rw [List.map_map]
  have := alk_its (it :: zs.map Prod.snd)
  rw [List.map_cons, List.map_map] at this
  exact this
theorem gI_at {zs : List (V × It)} {z : V × It} (h0 : zs[0]? = some z) : (zs.map gI)[0]? = some (gI z) := by rw [List.getElem?_map, h0]; rfl
theorem QAt.push {H : Hp} {l : Addr} {zs : List (V × It)} {v : V} {it : It} (h : QAt H l zs) (hv : ItAt H v it) : QAt (upd H l (.lst ((pushH ltI zs (v, it)).map Prod.fst))) l (pushH ltI zs (v, it)) := by
  have k : KeepT H (upd H l (.lst ((pushH ltI zs (v, it)).map Prod.fst))) := .upd h.1 fun _ z => nomatch z
  refine ⟨upd_same, fun z hz => ?_⟩
  rcases pushH_mem hz with hz | rfl
  · exact (h.2 z hz).keep k
  · exact hv.keep k
theorem QAt.rest {H : Hp} {l : Addr} {zs : List (V × It)} (h : QAt H l zs) : QAt (upd H l (.lst ((restH ltI zs).map Prod.fst))) l (restH ltI zs) := by
  have k : KeepT H (upd H l (.lst ((restH ltI zs).map Prod.fst))) := .upd h.1 fun _ z => nomatch z
  exact ⟨upd_same, fun z hz => (h.2 z (restH_mem hz)).keep k⟩
theorem QAt.keep {H H' : Hp} (e : KeepT H H') {l : Addr} {zs : List (V × It)} (h : QAt H l zs) (hl : H' l = H l) : QAt H' l zs := ⟨by rw [hl]; exact h.1, fun z hz => (h.2 z hz).keep e⟩
theorem needed_len (c : List Int) (ps : List Plc) : (needed c ps).length ≤ ps.length := by
  unfold needed
  rw [(sortP_perm _).length_eq]
  exact List.length_filter_le _ _
theorem nextTaken_short {ns : List Int} {d at_ : Nat} {tk : List Plc} {w : Int × List Plc} (h : w ∈ nextTaken ns d at_ tk) : w.2.length ≤ tk.length + 1 := by
  unfold nextTaken at h
  obtain ⟨i, _, e⟩ := List.mem_filterMap.mp h
  unfold nextOne at e
  split at e
  · exact nomatch e
  · cases Option.some.inj e
    refine Nat.le_trans (needed_len _ _) ?_
    rw [List.length_append]
    unfold movedBy
    rw [List.length_map]
    exact Nat.le_refl _
structure ItOk (n : Nat) (it : It) : Prop where
  w : it.2.1.length + 1 ≤ n
  t : it.2.2.length ≤ it.2.1.length + 1
section
variable {P : Program} {w : World} {K : PySem.W.Frag} {mg : Str → Option Value} {base : Heap}
/-! ### _least_waits -/
def spLeast (K : PySem.W.Frag) : Sp := fun vs H Q _ => ∃ (a : Addr) (ns : List Int) (d n E : Nat) (r : Option (List Int)), vs = [.ref a, .int (d : Nat)] ∧ SqT K H a (ns.map V.int) ∧ 1 ≤ ns.length ∧ ns.length ≤ 800 ∧ 1 ≤ d ∧ d ≤ 100 ∧ E * d ≤ 16000000 ∧ runE ns d n E (firstQ ns) [] = some r ∧
  (∀ ws, r = some ws → ∀ H' t, Same H H' → SqT K H' t (ws.map V.int) → Q (.ref t) H') ∧ (r = none → ∀ H', Same H H' → Q .non H')
theorem ok_least {f f1 : Addr} {fd fd1 : FuncData} {k : Nat} (F : Fun K "_least_waits" "_least_waits" s_least_waits f fd)
    (G1 : FnOk P w K mg base CX0 k f1 fd1 ["work", "distance", "at", "taken"] (spNext K)) (kp1 : PySem.W.keepIn K (.ref f1) = true) (b1 : Binds K fd1 ["work", "distance", "at", "taken"] []) (g1 : mg "_next_taken" = some (.ref f1))
    (m1 : mg "heappop" = some (.builtin "_heapq.heappop")) (m2 : mg "heappush" = some (.builtin "_heapq.heappush")) (m3 : mg "len" = none) : FnOk P w K mg base CX0 (k + 1) f fd ["work", "distance"] (spLeast K) := by
  refine F.ok sc_least_waits (fun vs H Q E h => ?_) (fun cdv A outer s H vs Q E hr h => ?_)
  · obtain ⟨a, ns, d, n, E', r, rfl, _⟩ := h; rfl
  · obtain ⟨a, ns, d, n, Emax, r, rfl, ha, n1, n2, d1, d2, nd, hrun, q1, q2⟩ := h
    have hu := hr.units
    refine ⟨_, pss_cons (ps_set (i := 2) sc_least_waits.nd rfl (by first | exact .inl rfl | exact .inr rfl) (pe_lst (pa_cons (pe_tup (pa_cons pe_int (pa_cons (pe_tup pa_nil) (pa_cons (pe_tup (pa_cons (pe_tup (pa_cons (pe_ix ix_tup (pv 0) pe_int (fun _ _ => rfl)) (pa_cons pe_int pa_nil))) pa_nil)) pa_nil)))) pa_nil)))
      (pss_cons (ps_set (i := 3) sc_least_waits.nd rfl (by first | exact .inl rfl | exact .inr rfl) (pe_nnewK (P := P) (w := w) rfl rfl))
      (pss_cons (ps_while PassesOwn.never (pt_truth (pv 2) (by intro _; rfl))
        (pss_cons (ps_asg (pe_callBfun (cr_hpop hr) (by rfl) m1 (pa_cons (pv 2) pa_nil)) (pg_tup rfl (pgs_cons (pg_name (i := 4) sc_least_waits.nd rfl (Or.inl rfl)) (pgs_cons (pg_name (i := 5) sc_least_waits.nd rfl (Or.inl rfl)) (pgs_cons (pg_name (i := 6) sc_least_waits.nd rfl (Or.inl rfl)) pgs_nil)))))
        (pss_cons (ps_if (pt_cmpR op_eq (pe_callB call_len_seq (by rfl) m3 PySem.boot_len (pa_cons (pv 5) pa_nil)) (pe_op op_sub (pe_callB call_len_seq (by rfl) m3 PySem.boot_len (pa_cons (pv 0) pa_nil)) pe_int) (nomark _)) (pss_one (ps_ret (pv 5))) pss_nil)
        (pss_one (ps_if (pt_cmp (pc_nnotinK (P := P) (w := w) rfl rfl hu (pe_tup (pa_cons (pe_callB call_len_seq (by rfl) m3 PySem.boot_len (pa_cons (pv 5) pa_nil)) (pa_cons (pv 6) pa_nil))) (pv 3)))
          (pss_cons (ps_nputK (P := P) (w := w) rfl rfl hu (pv 3) (pe_tup (pa_cons (pe_callB call_len_seq (by rfl) m3 PySem.boot_len (pa_cons (pv 5) pa_nil)) (pa_cons (pv 6) pa_nil))) pe_bl (by rfl))
          (pss_one (ps_for PassesOwn.never rfl (pi_list (pe_call G1 hr (by rfl) g1 kp1 b1 .nil pass0 (pa_cons (pv 0) (pa_cons (pv 1) (pa_cons (pe_op op_add (pe_callB call_len_seq (by rfl) m3 PySem.boot_len (pa_cons (pv 5) pa_nil)) pe_int) (pa_cons (pv 6) pa_nil))))))
              (pg_tup rfl (pgs_cons (pg_name (i := 7) sc_least_waits.nd rfl (Or.inl rfl)) (pgs_cons (pg_name (i := 8) sc_least_waits.nd rfl (Or.inl rfl)) pgs_nil)))
            (pss_one (ps_expr (pe_callBfun (cr_hpush hr) (by rfl) m2 (pa_cons (pv 2) (pa_cons (pe_tup (pa_cons (pe_op op_add (pv 4) (pv 7)) (pa_cons (pe_tup (pa_star (pv 5) (pa_cons (pv 7) pa_nil))) (pa_cons (pv 8) pa_nil)))) pa_nil))))))))
          pss_nil)))))
      (pss_one (ps_ret pe_non)))), ?_⟩
    have big : 16700000 ≤ sizeLine := by rw [sizeLine_eq]; decide
    have E1 : Emax ≤ 16000000 := Nat.le_trans (Nat.le_mul_of_pos_right Emax d1) nd
    obtain ⟨x0, hx0⟩ : ∃ x, ns[0]? = some x := ⟨_, List.getElem?_eq_getElem (by omega)⟩
    have ex0 : ns.getD 0 0 = x0 := by rw [List.getD_eq_getElem?_getD, hx0]; rfl
    have at0 : atI (ns.map V.int) 0 = some (.int x0) := atI_nat (j := 0) (by rw [List.getElem?_map, hx0]; rfl)
    refine ⟨Nat.zero_le _, fun E0 nE => ?_⟩
    refine ⟨.ref a, rfl, a, _, 0, .int x0, rfl, rfl, Same.tup (same_new nE) ha, at0, ?_⟩
    have e1 := same_new (o := .tup []) nE
    have hE1 : (upd H E0 (.tup [])) E0 = some (.tup []) := upd_same
    generalize upd H E0 (.tup []) = H1 at e1 hE1 ⊢
    refine ⟨by show 2 ≤ sizeLine; omega, fun p0 np => ⟨by show 1 ≤ sizeLine; omega, fun t0 nt => ⟨by show 3 ≤ sizeLine; omega, fun i0 ni => ⟨by show 1 ≤ sizeLine; omega, fun Lq nL S nS => ?_⟩⟩⟩⟩
    have e2 := same_new (o := .tup [V.int x0, .int 0]) np
    have e3 := same_new (o := .tup [V.ref p0]) nt
    have e4 := same_new (o := .tup [V.int 0, .ref E0, .ref t0]) ni
    have hp2 : (upd H1 p0 (.tup [V.int x0, .int 0])) p0 = some (.tup [V.int x0, .int 0]) := upd_same
    have ht3 : (upd (upd H1 p0 (.tup [V.int x0, .int 0])) t0 (.tup [V.ref p0])) t0 = some (.tup [V.ref p0]) := upd_same
    have hi4 : (upd (upd (upd H1 p0 (.tup [V.int x0, .int 0])) t0 (.tup [V.ref p0])) i0 (.tup [V.int 0, .ref E0, .ref t0])) i0 = some (.tup [V.int 0, .ref E0, .ref t0]) := upd_same
    have hit : ItAt (upd (upd (upd H1 p0 (.tup [V.int x0, .int 0])) t0 (.tup [V.ref p0])) i0 (.tup [V.int 0, .ref E0, .ref t0])) (.ref i0) (0, [], [(x0, 0)]) :=
      ⟨i0, E0, t0, rfl, hi4, e4 _ _ (e3 _ _ (e2 _ _ hE1)), _, e4 _ _ ht3, .cons (e4 _ _ (e3 _ _ hp2)) .nil⟩
    have e14 := e1.trans (e2.trans (e3.trans e4))
    generalize upd (upd (upd H1 p0 (.tup [V.int x0, .int 0])) t0 (.tup [V.ref p0])) i0 (.tup [V.int 0, .ref E0, .ref t0]) = H4 at e14 hit nL nS ⊢
    have e5 := same_new (o := .lst [V.ref i0]) nL
    have hL5 : (upd H4 Lq (.lst [V.ref i0])) Lq = some (.lst [V.ref i0]) := upd_same
    have hit5 := hit.keep (.of e5)
    have nLH : H Lq = none := freeS e14 nL
    have e15 := e14.trans e5
    generalize upd H4 Lq (.lst [V.ref i0]) = H5 at e5 hL5 hit5 e15 nS ⊢
    have e6 := same_new (o := DN P w S []) nS
    have hS6 : (upd H5 S (DN P w S [])) S = some (DN P w S []) := upd_same
    have hL6 := e6 _ _ hL5
    have nLS : Lq ≠ S := ne_of_none hL5 nS
    have nSH : H S = none := freeS e15 nS
    have hit6 := hit5.keep (.of e6)
    have e16 := e15.trans e6
    generalize upd H5 S (DN P w S []) = H6 at e6 hS6 hL6 hit6 e16 ⊢
    refine ⟨fun m σ H' => ∃ v4 v5 v6 v7 v8 zs seen rs e, σ = [some (.ref a), some (.int (d : Nat)), some (.ref Lq), some (.ref S), v4, v5, v6, v7, v8] ∧ Same H H' ∧ QAt H' Lq zs ∧ H' S = some (DN P w S rs) ∧ SeenOk H' rs seen ∧ (∀ z ∈ zs, ItOk ns.length z.2) ∧
        runE ns d m e (zs.map Prod.snd) seen = some r ∧ zs.length ≤ 1 + seen.length * d ∧ e + seen.length = Emax,
      ⟨n, _, _, _, _, _, [(.ref i0, (0, [], [(x0, 0)]))], [], [], Emax, rfl, e16, ⟨hL6, fun z hz => by rw [List.mem_singleton.mp hz]; exact hit6⟩, hS6, ⟨(fun r hr => nomatch hr), rfl, fun k => rfl⟩, fun z hz => by rw [List.mem_singleton.mp hz]; exact ⟨n1, Nat.le_refl _⟩, ?_, by show 1 ≤ 1 + 0 * d; omega, rfl⟩, ?_⟩
    · rw [← hrun]
      unfold firstQ
      rw [ex0]
      rfl
    rintro m σ H7 ⟨v4, v5, v6, v7, v8, zs, seen, rs, eN, rfl, e7, hQ, hS, hseen, hok, hr7, hz, hm⟩
    refine ⟨.ref Lq, rfl, !(zs.map Prod.fst).isEmpty, .inl ⟨_, .of hQ.1, rfl⟩, ?_⟩
    cases m with
    | zero => exact nomatch hr7
    | succ m =>
    have hr7 : (match (zs.map Prod.snd)[0]? with
      | none => some none
      | some it => if it.2.1.length + 1 = ns.length then some (some it.2.1) else
        if (it.2.1.length, it.2.2) ∈ seen then runE ns d m eN (restH itLt (zs.map Prod.snd)) seen
        else if eN = 0 then none else runE ns d m (eN - 1) (pushAll (restH itLt (zs.map Prod.snd)) it (nextTaken ns d (it.2.1.length + 1) it.2.2)) ((it.2.1.length, it.2.2) :: seen)) = some r := hr7
    rcases hzs : zs with _ | ⟨z0, zr⟩
    · rw [hzs] at hr7
      exact iteF (q2 (Option.some.inj hr7).symm H7 e7)
    have h0 : zs[0]? = some z0 := by rw [hzs]; rfl
    rw [← hzs, show (!(zs.map Prod.fst).isEmpty) = true from by rw [hzs]; rfl]
    rw [List.getElem?_map, h0] at hr7
    have hr7 : (if z0.2.2.1.length + 1 = ns.length then some (some z0.2.2.1) else
        if (z0.2.2.1.length, z0.2.2.2) ∈ seen then runE ns d m eN (restH itLt (zs.map Prod.snd)) seen
        else if eN = 0 then none else runE ns d m (eN - 1) (pushAll (restH itLt (zs.map Prod.snd)) z0.2 (nextTaken ns d (z0.2.2.1.length + 1) z0.2.2.2)) ((z0.2.2.1.length, z0.2.2.2) :: seen)) = some r := hr7
    have hz0 := hok z0 (by rw [hzs]; exact List.mem_cons_self)
    have hI0 := hQ.2 z0 (by rw [hzs]; exact List.mem_cons_self)
    have lz : 1 ≤ zs.length := by rw [hzs]; exact Nat.le_add_left _ _
    obtain ⟨z0v, tot, wts, tkn⟩ := z0
    dsimp only at hr7 hz0 hI0
    rw [← rest_snd] at hr7
    refine iteT ⟨fun σ' H' => ∃ v4 v5 v6 v7 v8 zs' seen' rs' e', σ' = [some (.ref a), some (.int (d : Nat)), some (.ref Lq), some (.ref S), v4, v5, v6, v7, v8] ∧ Same H H' ∧ QAt H' Lq zs' ∧ H' S = some (DN P w S rs') ∧ SeenOk H' rs' seen' ∧ (∀ z ∈ zs', ItOk ns.length z.2) ∧
        runE ns d m e' (zs'.map Prod.snd) seen' = some r ∧ zs'.length ≤ 1 + seen'.length * d ∧ e' + seen'.length = Emax, fun σ' H' h => ⟨m, Nat.lt_succ_self m, h⟩, ?_⟩
    refine ⟨.ref Lq, rfl, Lq, zs.map gI, gI (z0v, tot, wts, tkn), rfl, by rw [gI_fst]; exact hQ.1, gI_at h0, gI_dp hQ, gI_alk zs, ?_⟩
    rw [gI_rest]
    have kR : KeepT H7 (upd H7 Lq (.lst ((restH ltI zs).map Prod.fst))) := .upd hQ.1 fun _ z => nomatch z
    have hQ8 := hQ.rest
    have hI8 := hI0.keep kR
    have e8 : Same H (upd H7 Lq (.lst ((restH ltI zs).map Prod.fst))) := fun b o z => by
      rw [upd_ne (ne_of_none z nLH)]; exact e7 _ _ z
    have hS8 : (upd H7 Lq (.lst ((restH ltI zs).map Prod.fst))) S = some (DN P w S rs) := by rw [upd_ne nLS.symm]; exact hS
    have hseen8 := hseen.keep kR
    have hok8 : ∀ z ∈ restH ltI zs, ItOk ns.length z.2 := fun z hz => hok z (restH_mem hz)
    have l8 : (restH ltI zs).length = zs.length - 1 := restH_len zs
    generalize restH ltI zs = z8 at kR hQ8 hI8 e8 hS8 hseen8 hok8 l8 hr7 ⊢
    generalize upd H7 Lq (.lst (z8.map Prod.fst)) = H8 at kR hQ8 hI8 e8 hS8 hseen8 ⊢
    obtain ⟨ir, wr, tr, rfl, hi8, hw8, ht8⟩ := hI8
    dsimp only at hi8 hw8 ht8
    refine ⟨ir, _, rfl, .of hi8, rfl, _, _, rfl, _, _, rfl, _, _, rfl, rfl, ?_⟩
    have lw : (wts.map V.int).length = wts.length := List.length_map _
    have lns : (ns.map V.int).length = ns.length := List.length_map _
    refine ⟨.ref wr, rfl, wr, _, rfl, .inr (.of hw8), .ref a, rfl, a, _, rfl, .inr (Same.tup e8 ha), _, 1, rfl, rfl, rfl, _, rfl, ?_⟩
    refine ite2 (fun eq => ?_) (fun ne => ?_)
    · have eq := V.int.inj (of_decide_eq_true eq)
      rw [lw, lns] at eq
      rw [if_pos (by omega)] at hr7
      exact ⟨.ref wr, rfl, q1 wts (Option.some.inj hr7).symm H8 wr e8 (.of hw8)⟩
    have ne : ¬ wts.length + 1 = ns.length := fun z => ne (decide_eq_true (by rw [lw, lns]; congr 1; omega))
    rw [if_neg ne] at hr7
    have hat : wts.length + 1 < ns.length := by have := hz0.w; dsimp only at this; omega
    have htk := hz0.t
    dsimp only at htk
    refine ⟨.ref wr, rfl, wr, _, rfl, .inr (.of hw8), .ref tr, rfl, by show 2 ≤ sizeLine; omega, fun kb nkb => ?_⟩
    rw [lw]
    have ek := same_new (o := .tup [V.int (wts.length : Nat), .ref tr]) nkb
    have hk9 : (upd H8 kb (.tup [V.int (wts.length : Nat), .ref tr])) kb = some (.tup [V.int (wts.length : Nat), .ref tr]) := upd_same
    have e9 := e8.trans ek
    have hQ9 := hQ8.keep (.of ek) (by rw [ek _ _ hQ8.1, hQ8.1])
    have hS9 := ek _ _ hS8
    have hseen9 := hseen8.keep (.of ek)
    have hw9 := ek _ _ hw8
    have ht9 := ht8.keep (.of ek)
    generalize upd H8 kb (.tup [V.int (wts.length : Nat), .ref tr]) = H9 at ek hk9 e9 hQ9 hS9 hseen9 hw9 ht9 ⊢
    refine ⟨.ref S, rfl, S, kb, sK (wts.length, tkn), rs, rfl, rfl, ⟨hS9, hseen9.keys, sK_at hk9 ht9, sK_deep _⟩, _, rfl, ?_⟩
    rw [hseen9.has]
    by_cases hin : (wts.length, tkn) ∈ seen
    · rw [decide_eq_true hin]
      rw [if_pos hin] at hr7
      exact iteF ⟨_, _, _, _, _, z8, seen, rs, eN, rfl, e9, hQ9, hS9, hseen9, hok8, hr7, by omega, hm⟩
    rw [decide_eq_false hin]
    rw [if_neg hin] at hr7
    have e0 : eN ≠ 0 := fun z => by rw [if_pos z] at hr7; exact nomatch hr7
    rw [if_neg e0] at hr7
    have hmul : (seen.length + 1) * d = seen.length * d + d := Nat.succ_mul seen.length d
    have hmE : (seen.length + 1) * d ≤ Emax * d := Nat.mul_le_mul_right d (by omega)
    refine iteT ⟨.ref S, rfl, .ref wr, rfl, wr, _, rfl, .inr (.of hw9), .ref tr, rfl, by show 2 ≤ sizeLine; omega, fun kb2 nkb2 => ?_⟩
    rw [lw]
    have ek2 := same_new (o := .tup [V.int (wts.length : Nat), .ref tr]) nkb2
    have hk10 : (upd H9 kb2 (.tup [V.int (wts.length : Nat), .ref tr])) kb2 = some (.tup [V.int (wts.length : Nat), .ref tr]) := upd_same
    have e10 := e9.trans ek2
    have hQ10 := hQ9.keep (.of ek2) (by rw [ek2 _ _ hQ9.1, hQ9.1])
    have hS10 := ek2 _ _ hS9
    have hseen10 := hseen9.keep (.of ek2)
    have hw10 := ek2 _ _ hw9
    have ht10 := ht9.keep (.of ek2)
    generalize upd H9 kb2 (.tup [V.int (wts.length : Nat), .ref tr]) = H10 at ek2 hk10 e10 hQ10 hS10 hseen10 hw10 ht10 ⊢
    have lseen := hseen10.len
    refine ⟨S, kb2, sK (wts.length, tkn), rs, rfl, rfl, ⟨hS10, hseen10.keys, sK_at hk10 ht10, sK_deep _⟩, by omega, ?_⟩
    have kS : KeepT H10 (upd H10 S (DN P w S (storeN rs (sK (wts.length, tkn)) kb2 (.bl true)))) := .upd hS10 fun _ z => nomatch z
    have hseen11 := (hseen10.add (v := .bl true) (sK_at hk10 ht10) hin).keep kS
    have hS11 : (upd H10 S (DN P w S (storeN rs (sK (wts.length, tkn)) kb2 (.bl true)))) S = some (DN P w S (storeN rs (sK (wts.length, tkn)) kb2 (.bl true))) := upd_same
    have hQ11 := hQ10.keep kS (by rw [upd_ne nLS])
    have e11 : Same H (upd H10 S (DN P w S (storeN rs (sK (wts.length, tkn)) kb2 (.bl true)))) := fun b o z => by
      rw [upd_ne (ne_of_none z nSH)]; exact e10 _ _ z
    have hw11 := kS _ _ hw10
    have ht11 := ht10.keep kS
    generalize storeN rs (sK (wts.length, tkn)) kb2 (.bl true) = rs2 at kS hseen11 hS11 hQ11 e11 hw11 ht11 ⊢
    generalize upd H10 S (DN P w S rs2) = H11 at kS hseen11 hS11 hQ11 e11 hw11 ht11 ⊢
    refine ⟨.ref a, rfl, .int (d : Nat), rfl, .ref wr, rfl, wr, _, rfl, .inr (.of hw11), (wts.length : Nat), 1, by rw [lw], rfl, .ref tr, rfl, ?_⟩
    refine ⟨a, tr, ns, d, wts.length + 1, tkn, rfl, Same.tup e11 ha, ht11, d1, d2, hat, by omega, fun H12 l us e12 nl hl12 hN12 => ?_⟩
    have k12 : KeepT H11 H12 := .of e12
    have nlH : H l = none := freeS e11 nl
    have hLl : Lq ≠ l := ne_of_none hQ11.1 nl
    have hSl : S ≠ l := ne_of_none hS11 nl
    have hQ12 := hQ11.keep k12 (by rw [e12 _ _ hQ11.1, hQ11.1])
    have lus := hN12.len
    have lnt := nextTaken_len ns d (wts.length + 1) tkn
    generalize hns : nextTaken ns d (wts.length + 1) tkn = nts at hr7 hN12 lus lnt
    have hsh : ∀ w ∈ nts, w.2.length ≤ tkn.length + 1 := fun w hw => nextTaken_short (by rw [hns]; exact hw)
    refine ⟨l, rfl, ⟨_, .of hl12⟩, ?_⟩
    refine for_list (xs := us) (fun i σ H' => ∃ v7 v8 zs', σ = [some (.ref a), some (.int (d : Nat)), some (.ref Lq), some (.ref S), some (.int tot), some (.ref wr), some (.ref tr), v7, v8] ∧ Same H H' ∧ KeepT H12 H' ∧ H' l = some (.lst us) ∧ H' S = some (DN P w S rs2) ∧ QAt H' Lq zs' ∧
        zs'.map Prod.snd = pushAll (z8.map Prod.snd) (tot, wts, tkn) (nts.take i) ∧ (∀ z ∈ zs', ItOk ns.length z.2))
      ⟨_, _, z8, rfl, e11.trans e12, fun _ _ z => z, hl12, e12 _ _ hS11, hQ12, rfl, hok8⟩ (fun i σ H' _ h => ?_) (fun i x σ H' hx h => ?_) (fun σ H' h => ?_)
    · obtain ⟨_, _, _, _, _, _, hl, _⟩ := h
      exact .of hl
    · obtain ⟨v7, v8, zs', rfl, eA, kA, hlA, hSA, hQA, hsnd, hokA⟩ := h
      obtain ⟨wt, hwt, hwN⟩ := hN12.at hx
      have hi := (List.getElem?_eq_some_iff.mp hwt).1
      obtain ⟨wa, wl, rfl, hwa, hwl⟩ := hwN.keep kA
      have hwrA := kA _ _ (k12 _ _ hw11)
      refine ⟨wa, _, rfl, .of hwa, rfl, _, _, rfl, _, _, rfl, rfl, ?_⟩
      refine ⟨.ref Lq, rfl, .int tot, rfl, .int wt.1, rfl, tot, wt.1, rfl, rfl, .ref wr, rfl, wr, _, rfl, .inl (.of hwrA), .int wt.1, rfl, by rw [List.length_append, lw]; show _ + 1 ≤ _; omega, fun u1 nu1 => ⟨.ref wl, rfl, by show 3 ≤ sizeLine; omega, fun u2 nu2 => ?_⟩⟩
      have ea := same_new (o := .tup (wts.map V.int ++ [V.int wt.1])) nu1
      have hu1 : (upd H' u1 (.tup (wts.map V.int ++ [V.int wt.1]))) u1 = some (.tup (wts.map V.int ++ [V.int wt.1])) := upd_same
      generalize upd H' u1 (.tup (wts.map V.int ++ [V.int wt.1])) = HB at ea hu1 nu2 ⊢
      have eb := same_new (o := .tup [V.int (tot + wt.1), .ref u1, .ref wl]) nu2
      have hu2 : (upd HB u2 (.tup [V.int (tot + wt.1), .ref u1, .ref wl])) u2 = some (.tup [V.int (tot + wt.1), .ref u1, .ref wl]) := upd_same
      have hu12 := eb _ _ hu1
      generalize upd HB u2 (.tup [V.int (tot + wt.1), .ref u1, .ref wl]) = HC at eb hu2 hu12 ⊢
      have eAC := ea.trans eb
      have hIt : ItAt HC (.ref u2) (longer (tot, wts, tkn) wt) := ⟨u2, u1, wl, rfl, hu2, by rw [hu12]; show _ = some (HO.tup ((wts ++ [wt.1]).map V.int)); rw [List.map_append]; rfl, hwl.keep (.of eAC)⟩
      have hQC := hQA.keep (.of eAC) (by rw [eAC _ _ hQA.1, hQA.1])
      have lz' : zs'.length ≤ z8.length + i := by
        have := congrArg List.length hsnd
        rw [pushAll_len, List.length_map, List.length_map, List.length_take] at this
        omega
      have hidl : i < d := by omega
      refine ⟨Lq, .ref u2, itD (longer (tot, wts, tkn) wt), zs'.map gI, rfl, by rw [gI_fst]; exact hQC.1, gI_dp hQC, hIt.dp, gI_alk1 _ _, by rw [List.length_map]; omega, ?_⟩
      have ep := gI_push zs' (.ref u2, longer (tot, wts, tkn) wt)
      unfold gI at ep ⊢
      rw [ep]
      have kP : KeepT HC (upd HC Lq (.lst ((pushH ltI zs' (.ref u2, longer (tot, wts, tkn) wt)).map Prod.fst))) := .upd hQC.1 fun _ z => nomatch z
      refine ⟨_, _, pushH ltI zs' (.ref u2, longer (tot, wts, tkn) wt), rfl, fun b o z => ?_, fun b o z => kP _ _ (eAC _ _ (kA _ _ z)), ?_, ?_, hQC.push hIt, ?_, fun z hz => ?_⟩
      · rw [upd_ne (ne_of_none z nLH)]
        exact eAC _ _ (eA _ _ z)
      · rw [upd_ne hLl.symm]
        exact eAC _ _ hlA
      · rw [upd_ne nLS.symm]
        exact eAC _ _ hSA
      · rw [push_snd, hsnd, List.take_add_one, hwt]
        unfold pushAll
        rw [Option.toList_some, List.foldl_append]
        rfl
      · rcases pushH_mem hz with hz | rfl
        · exact hokA z hz
        · have := hsh wt (List.mem_of_getElem? hwt)
          refine ⟨?_, ?_⟩
          · show (wts ++ [wt.1]).length + 1 ≤ _
            rw [List.length_append]
            show wts.length + 1 + 1 ≤ _
            omega
          · show wt.2.length ≤ (wts ++ [wt.1]).length + 1
            rw [List.length_append]
            show _ ≤ wts.length + 1 + 1
            omega
    · obtain ⟨v7, v8, zs', rfl, eA, kA, hlA, hSA, hQA, hsnd, hokA⟩ := h
      rw [show us.length = nts.length from lus, List.take_length] at hsnd
      have lz' := congrArg List.length hsnd
      rw [pushAll_len, List.length_map, List.length_map] at lz'
      rw [← hsnd] at hr7
      exact ⟨_, _, _, _, _, zs', _, rs2, eN - 1, rfl, eA, hQA, hSA, (hseen11.keep k12).keep kA, hokA, hr7, by rw [List.length_cons]; omega, by rw [List.length_cons]; omega⟩
end
end Sg
set_option Elab.async false
set_option linter.all false
set_option maxRecDepth 100000
set_option maxHeartbeats 4000000
namespace Sg
open PySem PySem.Spec PyProof.Rows L2 StX
section
variable {P : Program} {w : World} {K : PySem.W.Frag} {mg : Str → Option Value} {base : Heap}
/-! ### _law_same -/
def spPick : Sp := fun vs H Q _ => ∃ (p l : Addr) (ns : List Int), vs = [.ref p, .ref l] ∧ PenAt H p ∧ l ≠ p ∧ H l = some (.lst (ns.map V.int)) ∧ 0 < ns.length ∧ ns.length < 1000000 ∧
  ∀ H' n, n ∈ ns → PenAt H' p → But p H H' → Q (.int n) H'
theorem ok_pick {f f1 : Addr} {fd fd1 : FuncData} {k : Nat} (F : Fun K "_law_pick" "_law_pick" s_l_pick f fd)
    (G1 : FnOk P w K mg base CX0 k f1 fd1 ["_law_pen_here", "_law_many"] spDraw) (kp1 : PySem.W.keepIn K (.ref f1) = true) (b1 : Binds K fd1 ["_law_pen_here", "_law_many"] []) (g1 : mg "_law_draw" = some (.ref f1))
    (m1 : mg "len" = none) : FnOk P w K mg base CX0 (k + 1) f fd ["_law_pen_here", "_law_values"] spPick := by
  refine F.ok sc_l_pick (fun vs H Q E h => ?_) (fun cdv A outer s H vs Q E hr h => ?_)
  · obtain ⟨p, l, ns, rfl, _⟩ := h; rfl
  · obtain ⟨p, l, ns, rfl, hp, nlp, hl, z0, z1, q⟩ := h
    refine ⟨_, pss_one (ps_ret (pe_ix ix_list (pv 1) (pe_call G1 hr (by rfl) g1 kp1 b1 .nil pass0 (pa_cons (pv 0) (pa_cons (pe_callB call_len_seq (by rfl) m1 PySem.boot_len (pa_cons (pv 1) pa_nil)) pa_nil))) (fun _ _ => rfl))), ?_⟩
    have len : (ns.map V.int).length = ns.length := List.length_map _
    refine ⟨.ref l, rfl, .ref p, rfl, .ref l, rfl, l, _, rfl, .inl (.of hl), p, _, rfl, hp, by rw [len]; omega, by rw [len]; omega, fun H' r r0 r1 p' b' => ?_⟩
    rw [len] at r1
    obtain ⟨j, rfl⟩ : ∃ j : Nat, r = j := ⟨r.toNat, by omega⟩
    have hj : j < ns.length := by omega
    refine ⟨l, _, (j : Int), .int ns[j], rfl, rfl, .of (b' _ _ nlp hl), atI_nat ?_, q H' ns[j] (List.getElem_mem hj) p' b'⟩
    rw [List.getElem?_map, List.getElem?_eq_getElem hj]
    rfl
/-! ### _law_mixed -/
def spMixed (K : PySem.W.Frag) : Sp := fun vs H Q _ => ∃ (p l : Addr) (ns : List Int), vs = [.ref p, .ref l] ∧ PenAt H p ∧ l ≠ p ∧ H l = some (.lst (ns.map V.int)) ∧ ns.length ≤ 1000 ∧
  ∀ H' q (ms : List Int), PenAt H' p → But p H H' → H q = none → H' q = some (.lst (ms.map V.int)) → ms.length = ns.length → (∀ x ∈ ms, x ∈ ns) → Q (.ref q) H'
theorem ok_mixed {f f1 : Addr} {fd fd1 : FuncData} {k : Nat} (F : Fun K "_law_mixed" "_law_mixed" s_l_mixed f fd)
    (G1 : FnOk P w K mg base CX0 k f1 fd1 ["_law_pen_here", "_law_many"] spDraw) (kp1 : PySem.W.keepIn K (.ref f1) = true) (b1 : Binds K fd1 ["_law_pen_here", "_law_many"] []) (g1 : mg "_law_draw" = some (.ref f1))
    (m1 : mg "list" = none) (m2 : mg "range" = none) (m3 : mg "len" = none) : FnOk P w K mg base CX0 (k + 1) f fd ["_law_pen_here", "_law_values"] (spMixed K) := by
  refine F.ok sc_l_mixed (fun vs H Q E h => ?_) (fun cdv A outer s H vs Q E hr h => ?_)
  · obtain ⟨p, l, ns, rfl, _⟩ := h; rfl
  · obtain ⟨p, l, ns, rfl, hp, nlp, hl, hz, q⟩ := h
    refine ⟨_, pss_cons (ps_par (i := 2) (j := 3) (by rfl) sc_l_mixed.nd rfl rfl (by decide) rfl rfl (pa_cons (pe_callTy (call_list_of) (by rfl) m1 (by decide +kernel) (pa_cons (pv 1) pa_nil)) (pa_cons (pe_lst pa_nil) pa_nil)) (by rfl))
      (pss_cons (ps_for PassesOwn.never rfl (pi_range1 (by rfl) m2 (pa_cons (pe_callB call_len_seq (by rfl) m3 PySem.boot_len (pa_cons (pv 1) pa_nil)) pa_nil)) (pg_name (i := 4) sc_l_mixed.nd rfl (.inl rfl))
        (pss_one (ps_expr (pe_bm PySem.F.plainAttrs_list PySem.F.slot_list_append PySem.F.type_list_append mt_append (pv 3)
          (pa_cons (pe_bm PySem.F.plainAttrs_list PySem.F.slot_list_pop PySem.F.type_list_pop mt_popAt (pv 2)
            (pa_cons (pe_call G1 hr (by rfl) g1 kp1 b1 .nil pass0 (pa_cons (pv 0) (pa_cons (pe_callB call_len_seq (by rfl) m3 PySem.boot_len (pa_cons (pv 2) pa_nil)) pa_nil))) pa_nil)) pa_nil)))))
      (pss_one (ps_ret (pv 3)))), ?_⟩
    refine ⟨.ref l, rfl, l, _, rfl, .inl (.of hl), fun L nL => ?_⟩
    have hL0 : (upd H L (.lst (ns.map V.int))) L = some (.lst (ns.map V.int)) := upd_same
    have e0 : Same H (upd H L (.lst (ns.map V.int))) := same_new nL
    have p0 := hp.new (o := .lst (ns.map V.int)) nL
    have nLp : L ≠ p := (hp.ne nL).symm
    generalize upd H L (.lst (ns.map V.int)) = H1 at hL0 e0 p0 ⊢
    refine ⟨by show 0 ≤ sizeLine; decide, fun F0 nF => ?_⟩
    have hF0 : (upd H1 F0 (.lst [])) F0 = some (.lst []) := upd_same
    have e1 : Same H1 (upd H1 F0 (.lst [])) := same_new nF
    have p1 := p0.new (o := .lst []) nF
    have nFp : F0 ≠ p := (p0.ne nF).symm
    have nFL : L ≠ F0 := ne_of_none hL0 nF
    have nFH : H F0 = none := hp.free p0 (.of e0) nF
    have hL1 := e1 _ _ hL0
    generalize upd H1 F0 (.lst []) = H2 at hF0 e1 p1 hL1 ⊢
    refine ⟨_, _, rfl, .ref l, rfl, l, _, rfl, .inl (.of (e1 _ _ (e0 _ _ hl))), _, rfl, by omega, ?_, ?_⟩
    · rw [List.length_map]; omega
    refine for_range (lo := 0) (n := (((ns.map V.int).length : Nat) : Int).toNat) (fun i σ H' => ∃ v4, σ = [some (.ref p), some (.ref l), some (.ref L), some (.ref F0), v4] ∧ PenAt H' p ∧ But p H H' ∧
        ∃ ls fs : List Int, H' L = some (.lst (ls.map V.int)) ∧ H' F0 = some (.lst (fs.map V.int)) ∧ ls.length + i = ns.length ∧ fs.length = i ∧ (∀ x ∈ ls, x ∈ ns) ∧ (∀ x ∈ fs, x ∈ ns))
      ⟨_, rfl, p1, .of (e0.trans e1), ns, [], hL1, hF0, rfl, rfl, fun _ h => h, fun x hx => nomatch hx⟩ ?_ ?_
    · rintro i σ H3 hi ⟨v4, rfl, p3, b3, ls, fs, hL3, hF3, l1, l2, i1, i2⟩
      have hlt : i < ns.length := by rw [Int.toNat_natCast, List.length_map] at hi; exact hi
      have lenL : (ls.map V.int).length = ls.length := List.length_map _
      refine ⟨.ref F0, rfl, .inl ⟨rfl, _, .of hF3⟩, .ref L, rfl, .inl ⟨rfl, _, .of hL3⟩, .ref p, rfl, .ref L, rfl, L, _, rfl, .inl (.of hL3), p, _, rfl, p3, by rw [lenL]; omega, by rw [lenL]; omega, fun H4 r r0 r1 p4 b4 => ?_⟩
      rw [lenL] at r1
      obtain ⟨j, rfl⟩ : ∃ j : Nat, r = j := ⟨r.toNat, by omega⟩
      have hj : j < ls.length := by omega
      have hL4 := b4 _ _ nLp hL3
      have hF4 := b4 _ _ nFp hF3
      have gj : (ls.map V.int)[j]? = some (.int ls[j]) := by rw [List.getElem?_map, List.getElem?_eq_getElem hj]; rfl
      refine ⟨L, _, (j : Int), j, .int ls[j], rfl, rfl, hL4, by omega, by omega, (ixN_seq (ixN_nat (by rw [lenL]; exact hj))).1, gj, ?_⟩
      have hF5 : (upd H4 L (.lst ((ls.map V.int).eraseIdx j))) F0 = some (.lst (fs.map V.int)) := by rw [upd_ne nFL.symm]; exact hF4
      refine ⟨F0, _, _, rfl, rfl, hF5, ?_, ?_⟩
      · rw [List.length_map]; exact small1000 (by omega)
      refine ⟨_, rfl, (p4.upd nLp.symm).upd nFp.symm, ?_, ls.eraseIdx j, fs ++ [ls[j]], ?_, ?_, ?_, ?_, fun x hx => i1 x (List.mem_of_mem_eraseIdx hx), fun x hx => ?_⟩
      · intro b o nb e
        have z := b4 _ _ nb (b3 _ _ nb e)
        have z1 : b ≠ F0 := ne_of_none e nFH
        have z2 : b ≠ L := ne_of_none e nL
        rw [upd_ne z1, upd_ne z2]
        exact z
      · rw [upd_ne nFL, upd_same, eraseIdx_map]
      · rw [upd_same, List.map_append]; rfl
      · rw [List.length_eraseIdx_of_lt hj]; omega
      · rw [List.length_append]; show fs.length + 1 = i + 1; omega
      · rcases List.mem_append.mp hx with z | z
        · exact i2 x z
        · rw [List.mem_singleton.mp z]; exact i1 _ (List.getElem_mem hj)
    · rintro σ H3 ⟨v4, rfl, p3, b3, ls, fs, hL3, hF3, l1, l2, i1, i2⟩
      rw [Int.toNat_natCast, List.length_map] at l2
      exact ⟨.ref F0, rfl, q _ _ fs p3 b3 nFH hF3 l2 i2⟩
end
end Sg
set_option Elab.async false
set_option linter.all false
set_option maxRecDepth 100000
set_option maxHeartbeats 4000000
namespace Sg
open PySem PySem.Spec PyProof.Rows L2 StX
def tenL : List Int := (List.range 10).map fun i => (0 : Int) + (i : Nat)
theorem ten_eq : rgV 0 10 = tenL.map V.int := by
  unfold rgV tenL
  rw [List.map_map]
  rfl
theorem ten_mem {x : Int} (h : x ∈ tenL) : 0 ≤ x ∧ x ≤ 9 := by
  obtain ⟨i, hi, rfl⟩ := List.mem_map.mp h
  have := List.mem_range.mp hi
  omega
section
variable {P : Program} {w : World} {K : PySem.W.Frag} {mg : Str → Option Value} {base : Heap}
/-! ### _law_work -/
def spWork : Sp := fun vs H Q _ => ∃ (p : Addr) (m st : Int), vs = [.ref p, .int m, .int st] ∧ PenAt H p ∧ 1 ≤ m ∧ m ≤ 60 ∧ 1 ≤ st ∧ st ≤ 10 ∧
  ∀ H' t (ns : List Int), PenAt H' p → But p H H' → H t = none → FrzT H' t (ns.map V.int) → IsWork ns → (ns.length : Int) ≤ m → (∃ N : List Int, (N.length : Int) ≤ st ∧ ∀ x ∈ ns, x = -1 ∨ x ∈ N) → Q (.ref t) H'
theorem ok_work {f f1 f2 f3 : Addr} {fd fd1 fd2 fd3 : FuncData} {k : Nat} (F : Fun K "_law_work" "_law_work" s_l_work f fd)
    (G1 : FnOk P w K mg base CX0 k f1 fd1 ["_law_pen_here", "_law_many"] spDraw) (kp1 : PySem.W.keepIn K (.ref f1) = true) (b1 : Binds K fd1 ["_law_pen_here", "_law_many"] []) (g1 : mg "_law_draw" = some (.ref f1))
    (G2 : FnOk P w K mg base CX0 k f2 fd2 ["_law_pen_here", "_law_values"] spPick) (kp2 : PySem.W.keepIn K (.ref f2) = true) (b2 : Binds K fd2 ["_law_pen_here", "_law_values"] []) (g2 : mg "_law_pick" = some (.ref f2))
    (G3 : FnOk P w K mg base CX0 k f3 fd3 ["_law_pen_here", "_law_values"] (spMixed K)) (kp3 : PySem.W.keepIn K (.ref f3) = true) (b3 : Binds K fd3 ["_law_pen_here", "_law_values"] []) (g3 : mg "_law_mixed" = some (.ref f3))
    (m1 : mg "range" = none) (m2 : mg "tuple" = none) (m3 : mg "list" = none) :
    FnOk P w K mg base CX0 (k + 1) f fd ["_law_pen_here", "_law_long", "_law_many"] spWork := by
  refine F.ok sc_l_work (fun vs H Q E h => ?_) (fun cdv A outer s H vs Q E hr h => ?_)
  · obtain ⟨p, m, st, rfl, _⟩ := h; rfl
  · obtain ⟨p, m, st, rfl, hp, hm1, hm2, hs1, hs2, q⟩ := h
    refine ⟨_, pss_cons (ps_set (i := 3) sc_l_work.nd rfl (.inl rfl) (pe_slice sl_list (pe_call G3 hr (by rfl) g3 kp3 b3 .nil pass0 (pa_cons (pv 0) (pa_cons (pe_listRg rfl (by rfl) m3 (prg_1 (by rfl) m1 pe_int)) pa_nil)))
          po_none (po_some (pe_op op_add pe_int (pe_call G1 hr (by rfl) g1 kp1 b1 .nil pass0 (pa_cons (pv 0) (pa_cons (pv 2) pa_nil)))))))
      (pss_cons (ps_par (i := 4) (j := 5) (by rfl) sc_l_work.nd rfl rfl (by decide) rfl rfl (pa_cons (pe_lst (pa_cons (pe_call G2 hr (by rfl) g2 kp2 b2 .nil pass0 (pa_cons (pv 0) (pa_cons (pv 3) pa_nil))) pa_nil))
          (pa_cons (pe_op op_add pe_int (pe_call G1 hr (by rfl) g1 kp1 b1 .nil pass0 (pa_cons (pv 0) (pa_cons pe_int pa_nil)))) pa_nil)) (by rfl))
      (pss_cons (ps_for PassesOwn.never rfl (pi_range1 (by rfl) m1 (pa_cons (pe_call G1 hr (by rfl) g1 kp1 b1 .nil pass0 (pa_cons (pv 0) (pa_cons (pv 1) pa_nil))) pa_nil)) (pg_name (i := 6) sc_l_work.nd rfl (.inl rfl))
        (pss_one (ps_expr (pe_bm PySem.F.plainAttrs_list PySem.F.slot_list_append PySem.F.type_list_append mt_append (pv 4)
          (pa_cons (pe_ifExp (pt_cmpR op_eq (pe_call G1 hr (by rfl) g1 kp1 b1 .nil pass0 (pa_cons (pv 0) (pa_cons (pv 5) pa_nil))) pe_int (nomark _)) (pe_un un_neg pe_int)
            (pe_call G2 hr (by rfl) g2 kp2 b2 .nil pass0 (pa_cons (pv 0) (pa_cons (pv 3) pa_nil)))) pa_nil)))))
      (pss_cons (ps_if (pt_cmpR op_eq (pe_ix ix_list (pv 4) (pe_un un_neg pe_int) (fun _ _ => rfl)) (pe_un un_neg pe_int) (nomark _))
        (pss_one (ps_asg (pe_call G2 hr (by rfl) g2 kp2 b2 .nil pass0 (pa_cons (pv 0) (pa_cons (pv 3) pa_nil))) (pg_sub (pv 4) (pe_un un_neg pe_int) set_list))) pss_nil)
      (pss_one (ps_ret (pe_callTy call_tupleF (by rfl) m2 (by decide +kernel) (pa_cons (pv 4) pa_nil))))))), ?_⟩
    refine ⟨.ref p, rfl, 10, rfl, .of_le (by decide) (by decide) (by decide) (by decide), fun L nL => ?_⟩
    rw [ten_eq]
    refine ⟨p, L, tenL, rfl, hp.new nL, (hp.ne nL).symm, upd_same, by decide, fun H1 M ms p1 b1' nM hM lenM memM => ?_⟩
    have c1 : But p H H1 := (But.of (same_new nL)).trans b1'
    clear b1'
    refine ⟨.ref p, rfl, .int st, rfl, p, st, rfl, p1, by omega, by omega, fun H2 r r0 r1 p2 b2' => ⟨1, r, rfl, rfl, 1 + r, rfl, ?_⟩⟩
    have nMp : M ≠ p := fun z => by
      subst z
      obtain ⟨_, _, _, e, _⟩ := p1
      rw [hM] at e
      have e' := Option.some.inj e
      injection e' with e'
      have l1 := congrArg List.length e'
      rw [List.length_map, lenM] at l1
      have l2 : tenL.length = 3 := l1
      exact absurd l2 (by decide)
    have hM2 := b2' _ _ nMp hM
    refine ⟨M, _, rfl, .of hM2, fun N nN => ?_⟩
    obtain ⟨d, hd⟩ : ∃ d : Nat, 1 + r = d := ⟨(1 + r).toNat, by omega⟩
    rw [hd, cut_to, ← List.map_take]
    have c2 : But p H (upd H2 N (.lst ((ms.take d).map V.int))) := (c1.trans b2').trans (.of (same_new nN))
    have hN0 : (upd H2 N (.lst ((ms.take d).map V.int))) N = some (.lst ((ms.take d).map V.int)) := upd_same
    have p3 := p2.new (o := .lst ((ms.take d).map V.int)) nN
    have nNp : N ≠ p := (p2.ne nN).symm
    have nNH : H N = none := hp.free p2 (c1.trans b2') nN
    have l10 : tenL.length = 10 := by decide
    have hns : ∀ x ∈ ms.take d, 0 ≤ x ∧ x ≤ 9 := fun x hx => ten_mem (memM x (List.mem_of_mem_take hx))
    have lns : 0 < (ms.take d).length ∧ (ms.take d).length < 1000000 := by rw [List.length_take]; omega
    have lst : ((ms.take d).length : Int) ≤ st := by rw [List.length_take]; omega
    generalize ms.take d = nn at c2 hN0 p3 hns lns lst ⊢
    generalize upd H2 N (.lst (nn.map V.int)) = H3 at c2 hN0 p3 ⊢
    refine ⟨.ref p, rfl, .ref N, rfl, p, N, nn, rfl, p3, nNp, hN0, lns.1, lns.2, fun H4 x0 hx0 p4 b4 => ⟨by show 1 ≤ sizeLine; decide, fun F0 nF => ?_⟩⟩
    have hN4 := b4 _ _ nNp hN0
    have hF5 : (upd H4 F0 (.lst [V.int x0])) F0 = some (.lst [V.int x0]) := upd_same
    have e5 : Same H4 (upd H4 F0 (.lst [V.int x0])) := same_new nF
    have p5 := p4.new (o := .lst [V.int x0]) nF
    have nFp : F0 ≠ p := (p4.ne nF).symm
    have nFH : H F0 = none := hp.free p4 (c2.trans b4) nF
    have nNF : N ≠ F0 := ne_of_none hN4 nF
    have hN5 := e5 _ _ hN4
    generalize upd H4 F0 (.lst [V.int x0]) = H5 at hF5 e5 p5 hN5 ⊢
    refine ⟨.ref p, rfl, p, 3, rfl, p5, by decide, by decide, fun H6 ra ra0 ra1 p6 b6 => ⟨2, ra, rfl, rfl, _, _, rfl, ?_⟩⟩
    refine ⟨.ref p, rfl, .int m, rfl, p, m, rfl, p6, by omega, by omega, fun H7 c c0 c1' p7 b7 => ⟨c, rfl, by omega, by omega, ?_⟩⟩
    have c7 : But p H H7 := ((((c2.trans b4).trans (.of e5)).trans b6)).trans b7
    have hN7 := b7 _ _ nNp (b6 _ _ nNp hN5)
    have hF7 := b7 _ _ nFp (b6 _ _ nFp hF5)
    clear c2 b4 e5 b6 b7 p6 p5 p4 p3
    refine for_range (lo := 0) (n := c.toNat) (fun i σ H' => ∃ v6, σ = [some (.ref p), some (.int m), some (.int st), some (.ref N), some (.ref F0), some (.int (2 + ra)), v6] ∧ PenAt H' p ∧ But p H H' ∧
        H' N = some (.lst (nn.map V.int)) ∧ ∃ fs : List Int, H' F0 = some (.lst (fs.map V.int)) ∧ fs.length = 1 + i ∧ (∀ x ∈ fs, -1 ≤ x ∧ x ≤ 9) ∧ (∀ x, fs[0]? = some x → x ≠ -1) ∧ (∀ x ∈ fs, x = -1 ∨ x ∈ nn))
      ⟨_, rfl, p7, c7, hN7, [x0], hF7, rfl, fun x hx => ?_, fun x hx => ?_, fun x hx => .inr (by rw [List.mem_singleton.mp hx]; exact hx0)⟩ ?_ ?_
    · rw [List.mem_singleton.mp hx]; have := hns x0 hx0; omega
    · have : x0 = x := Option.some.inj hx
      have := hns x0 hx0; omega
    · rintro i σ H8 hi ⟨v6, rfl, p8, c8, hN8, fs, hF8, l8, i8, h8, m8⟩
      refine ⟨.ref F0, rfl, .inl ⟨rfl, _, .of hF8⟩, .ref p, rfl, .int (2 + ra), rfl, p, 2 + ra, rfl, p8, by omega, by omega, fun H9 r9 _ _ p9 b9 => ?_⟩
      have hF9 := b9 _ _ nFp hF8
      have hN9 := b9 _ _ nNp hN8
      have fin : ∀ (H' : Hp) (z : Int), PenAt H' p → But p H9 H' → -1 ≤ z → z ≤ 9 → (z = -1 ∨ z ∈ nn) → (fs.map V.int).length < sizeLine ∧ ∃ v6, [some (V.ref p), some (.int m), some (.int st), some (.ref N), some (.ref F0), some (.int (2 + ra)), some (.int (0 + (i : Nat)))] = [some (.ref p), some (.int m), some (.int st), some (.ref N), some (.ref F0), some (.int (2 + ra)), v6] ∧
          PenAt (L2.upd H' F0 (.lst (fs.map V.int ++ [V.int z]))) p ∧ But p H (L2.upd H' F0 (.lst (fs.map V.int ++ [V.int z]))) ∧ (L2.upd H' F0 (.lst (fs.map V.int ++ [V.int z]))) N = some (.lst (nn.map V.int)) ∧
          ∃ fs' : List Int, (L2.upd H' F0 (.lst (fs.map V.int ++ [V.int z]))) F0 = some (.lst (fs'.map V.int)) ∧ fs'.length = 1 + (i + 1) ∧ (∀ x ∈ fs', -1 ≤ x ∧ x ≤ 9) ∧ (∀ x, fs'[0]? = some x → x ≠ -1) ∧ (∀ x ∈ fs', x = -1 ∨ x ∈ nn) := by
        intro H' z pz bz z1 z2 z3
        refine ⟨?_, _, rfl, pz.upd nFp.symm, fun b o n e => ?_, ?_, fs ++ [z], ?_, ?_, fun x hx => ?_, fun x hx => ?_, fun x hx => ?_⟩
        · rw [List.length_map]; exact small1000 (by omega)
        · rw [upd_ne (ne_of_none e nFH)]
          exact bz _ _ n (b9 _ _ n (c8 _ _ n e))
        · rw [upd_ne nNF]
          exact bz _ _ nNp hN9
        · rw [upd_same, List.map_append]; rfl
        · rw [List.length_append]; show fs.length + 1 = _; omega
        · rcases List.mem_append.mp hx with h | h
          · exact i8 x h
          · rw [List.mem_singleton.mp h]; exact ⟨z1, z2⟩
        · rw [List.getElem?_append_left (by omega)] at hx
          exact h8 x hx
        · rcases List.mem_append.mp hx with h | h
          · exact m8 x h
          · rw [List.mem_singleton.mp h]; exact z3
      refine ⟨rfl, _, rfl, ite2 (fun _ => ?_) (fun _ => ?_)⟩
      · obtain ⟨z1, z2⟩ := fin H9 (-1) p9 (.refl _ _) (by decide) (by decide) (.inl rfl)
        exact ⟨1, rfl, F0, _, _, rfl, rfl, hF9, z1, z2⟩
      · refine ⟨.ref p, rfl, .ref N, rfl, p, N, nn, rfl, p9, nNp, hN9, lns.1, lns.2, fun H10 x hx p10 b10 => ?_⟩
        have hx' := hns x hx
        obtain ⟨z1, z2⟩ := fin H10 x p10 b10 (by omega) (by omega) (.inr hx)
        exact ⟨F0, _, _, rfl, rfl, b10 _ _ nFp hF9, z1, z2⟩
    · rintro σ H8 ⟨v6, rfl, p8, c8, hN8, fs, hF8, l8, i8, h8, m8⟩
      have lfs : (fs.map V.int).length = fs.length := List.length_map _
      have hl : fs.length - 1 < fs.length := by omega
      have hat : atI (fs.map V.int) (-1) = some (.int fs[fs.length - 1]) := by
        unfold atI
        rw [lfs, ixN_end (by omega)]
        show (fs.map V.int)[fs.length - 1]? = _
        rw [List.getElem?_map, List.getElem?_eq_getElem hl]
        rfl
      have fin : ∀ (H' : Hp) (gs : List Int), PenAt H' p → But p H H' → H' F0 = some (.lst (gs.map V.int)) → gs.length = fs.length → (∀ x ∈ gs, -1 ≤ x ∧ x ≤ 9) → (∀ x, gs[0]? = some x → x ≠ -1) → (∀ x, gs[gs.length - 1]? = some x → x ≠ -1) → (∀ x ∈ gs, x = -1 ∨ x ∈ nn) →
          ∃ v, some (some (V.ref F0)) = some (some v) ∧ ∃ (q0 : Addr) (ys : List V), [v] = [V.ref q0] ∧ SqL K H' q0 ys ∧ ∀ l ob, H' l = none → ob.cls = .type "tuple" → ob.dict = none → Q (.ref l) (L2.upd H' l (.frz ob (.tup ys))) := by
        intro H' gs pg cg hg lg ig h0 hL hM
        refine ⟨_, rfl, F0, _, rfl, .of hg, fun t ob nt c1 c2 => ?_⟩
        refine q _ t gs (pg.new nt) (cg.trans (.of (same_new nt))) (hp.free pg cg nt) ⟨ob, upd_same, c1, c2⟩ ⟨by omega, by omega, ig, h0, hL⟩ (by omega) ⟨nn, lst, hM⟩
      refine ⟨.ref F0, rfl, 1, rfl, F0, _, -1, .int fs[fs.length - 1], rfl, rfl, .of hF8, hat, 1, rfl, rfl, _, rfl, ite2 (fun eq => ?_) (fun ne => ?_)⟩
      · refine ⟨.ref p, rfl, .ref N, rfl, p, N, nn, rfl, p8, nNp, hN8, lns.1, lns.2, fun H9 x hx p9 b9 => ?_⟩
        have hx' := hns x hx
        refine ⟨.ref F0, rfl, 1, rfl, F0, _, -1, fs.length - 1, rfl, rfl, b9 _ _ nFp hF8, by rw [lfs]; exact ixN_end (by omega), ?_⟩
        rw [show (fs.map V.int).set (fs.length - 1) (.int x) = (fs.set (fs.length - 1) x).map V.int from by rw [List.map_set]]
        refine fin _ (fs.set (fs.length - 1) x) (p9.upd nFp.symm) (fun b o n e => ?_) upd_same (List.length_set) (fun y hy => ?_) (fun y hy => ?_) (fun y hy => ?_) (fun y hy => ?_)
        · rw [upd_ne (ne_of_none e nFH)]
          exact b9 _ _ n (c8 _ _ n e)
        · rcases mem_set hy with h | h
          · omega
          · exact i8 y h
        · rcases set_at hy with h | ⟨_, h⟩
          · omega
          · exact h8 y h
        · rw [List.length_set] at hy
          rcases set_at hy with h | ⟨h, _⟩
          · omega
          · exact absurd rfl h
        · rcases mem_set hy with h | h
          · rw [h]; exact .inr hx
          · exact m8 y h
      · refine fin _ fs p8 c8 hF8 rfl i8 h8 (fun y hy => ?_) m8
        rw [List.getElem?_eq_getElem hl] at hy
        rintro rfl
        exact ne (decide_eq_true (by rw [Option.some.inj hy]))
end
end Sg
set_option Elab.async false
set_option linter.all false
set_option maxRecDepth 100000
set_option maxHeartbeats 4000000
namespace Sg
open PySem PySem.Spec PyProof.Rows L2
/-! ## the mathematics -/
def gapL (w : Int) : List Int := List.replicate w.toNat (-1)
def putN (x : Int) (ws rs : List Int) (i : Nat) : List Int := x :: (List.range i).flatMap fun j => gapL (ws.getD j 0) ++ [rs.getD j 0]
theorem putN_succ (x : Int) (ws rs : List Int) (i : Nat) : putN x ws rs (i + 1) = putN x ws rs i ++ gapL (ws.getD i 0) ++ [rs.getD i 0] := by
  unfold putN
  rw [List.range_succ, List.flatMap_append, List.flatMap_cons, List.flatMap_nil, List.append_nil, List.cons_append, List.cons_append, List.append_assoc]
/-- waits of a work with the items rs behind the first one -/
structure Waits (ws rs : List Int) : Prop where
  len : rs.length = ws.length
  most : ws.length ≤ 59
  items : ∀ x ∈ ws, 0 ≤ x ∧ x ≤ 11
theorem gap_len {ws rs : List Int} (h : Waits ws rs) (i : Nat) : (gapL (ws.getD i 0)).length ≤ 11 := by
  unfold gapL
  rw [List.length_replicate, List.getD_eq_getElem?_getD]
  rcases e : ws[i]? with _ | x
  · exact Nat.zero_le _
  · have := h.items x (List.mem_of_getElem? e)
    show x.toNat ≤ 11
    omega
theorem put_len {ws rs : List Int} (h : Waits ws rs) (x : Int) : ∀ i, (putN x ws rs i).length ≤ 1 + 12 * i
  | 0 => Nat.le_refl _
  | i + 1 => by
    rw [putN_succ, List.length_append, List.length_append]
    have := put_len h x i
    have := gap_len h i
    show _ + 1 ≤ _
    omega
theorem put_items {x : Int} {ws rs : List Int} (hx : -1 ≤ x ∧ x ≤ 9) (hr : ∀ y ∈ rs, -1 ≤ y ∧ y ≤ 9) : ∀ i, ∀ y ∈ putN x ws rs i, -1 ≤ y ∧ y ≤ 9
  | 0, y, hy => by rw [List.mem_singleton.mp hy]; exact hx
  | i + 1, y, hy => by
    rw [putN_succ] at hy
    rcases List.mem_append.mp hy with hy | hy
    · rcases List.mem_append.mp hy with hy | hy
      · exact put_items hx hr i y hy
      · rw [(List.mem_replicate.mp hy).2]; decide
    · rw [List.mem_singleton.mp hy, List.getD_eq_getElem?_getD]
      rcases e : rs[i]? with _ | z
      · decide
      · exact hr z (List.mem_of_getElem? e)
section
variable {P : Program} {w : World} {K : PySem.W.Frag} {mg : Str → Option Value} {base : Heap}
/-! ### _is_waits -/
def spIsWaits (K : PySem.W.Frag) : Sp := fun vs H Q _ => ∃ (a b : Addr) (x : Int) (ws rs : List Int), vs = [.ref a, .ref b] ∧ SqT K H a ((x :: rs).map V.int) ∧ SqT K H b (ws.map V.int) ∧ Waits ws rs ∧ ∀ H', Same H H' → Q (.bl true) H'
theorem ok_is_waits {f f1 : Addr} {fd fd1 : FuncData} {k : Nat} (F : Fun K "_is_waits" "_is_waits" s_is_waits f fd) (nW : ∃ t, mg "MOST_WAIT" = some (.int 11 t))
    (G1 : FnOk P w K mg base CX0 k f1 fd1 ["thing", "least", "most"] spIsBetween) (kp1 : PySem.W.keepIn K (.ref f1) = true) (b1 : Binds K fd1 ["thing", "least", "most"] []) (g1 : mg "is_between" = some (.ref f1))
    (m1 : mg "isinstance" = none) (m2 : mg "tuple" = none) (m3 : mg "len" = none) (m4 : mg "all" = none) :
    FnOk P w K mg base CX0 (k + 1) f fd ["work", "thing"] (spIsWaits K) := by
  obtain ⟨t1, n1⟩ := nW
  refine F.ok sc_is_waits (fun vs H Q E h => ?_) (fun cdv A outer s H vs Q E hr h => ?_)
  · obtain ⟨a, b, x, ws, rs, rfl, _⟩ := h; rfl
  · obtain ⟨a, b, x, ws, rs, rfl, hA, hB, hw, q⟩ := h
    refine ⟨_, pss_cons (ps_if (PW.pt (pw_or (pt_not (pt_val (pe_callB call_isi (by rfl) m1 (by decide +kernel) (pa_cons (pv 1) (pa_cons (pe_bltn (v := .ty "tuple") (by rfl) m2 (by decide +kernel) rfl) pa_nil)))))
          (pw_or1 (pt_cmpR op_ne (pe_callB call_len_seq (by rfl) m3 PySem.boot_len (pa_cons (pv 1) pa_nil)) (pe_op op_sub (pe_callB call_len_seq (by rfl) m3 PySem.boot_len (pa_cons (pv 0) pa_nil)) pe_int) (nomark _)))))
        (pss_one (ps_ret pe_bl)) pss_nil)
      (pss_one (ps_ret (pe_callB (cr_all rfl) (by rfl) m4 (by decide +kernel) (pa_cons
          (pe_lc (own := [("wait", 2)]) (g := gName 2) (tt := tYes) rfl sc_is_waits.nd (pi_tup (pv 1)) (blkOk_by (N := ["work", "thing", "wait"]) (sc := defScope s_is_waits) (by decide +kernel))
            (fun _ _ _ _ _ => pg_name (i := 2) sc_is_waits.nd rfl (Or.inl rfl)) (fun _ _ _ _ _ => pts_nil)
            (fun _ _ _ _ _ => pe_call G1 hr (by rfl) g1 kp1 b1 .nil pass0 (pa_cons (pv 2) (pa_cons pe_int (pa_cons (pe_glob (v := .int 11) (by rfl) n1 ⟨_, rfl⟩) pa_nil))))) pa_nil)))), ?_⟩
    refine ⟨.ref b, rfl, .ref b, .ty "tuple", _, _, true, rfl, .ty _, tyT hB, kit_ty (by decide +kernel), true, rfl, iteF ?_⟩
    refine ⟨.ref b, rfl, b, _, rfl, .inr hB, .ref a, rfl, a, _, rfl, .inr hA, _, 1, rfl, rfl, rfl, ?_⟩
    have l1 : ((((x :: rs).map V.int).length : Nat) : Int) - 1 = ((ws.map V.int).length : Nat) := by
      rw [List.length_map, List.length_map]
      have := hw.len
      show ((rs.length + 1 : Nat) : Int) - 1 = _
      omega
    rw [show (!decide (V.int ((ws.map V.int).length : Nat) = V.int (((((x :: rs).map V.int).length : Nat) : Int) - 1))) = false from by rw [l1, decide_eq_true rfl]; rfl]
    refine ⟨_, rfl, iteF ⟨.ref b, rfl, b, rfl, ⟨_, hB⟩, fun D hD => ?_⟩⟩
    refine lc_tup (xs := ws.map V.int) (fun i H' => Same H H' ∧ H' D = some (.lst ((List.replicate i true).map V.bl))) ⟨same_new hD, upd_same⟩ (fun i H' _ h => Same.tup h.1 hB) (fun i y H' hy h => ?_) (fun H' h => ?_)
    · rw [List.getElem?_map] at hy
      obtain ⟨z, hz, rfl⟩ := Option.map_eq_some_iff.mp hy
      have hi := (List.getElem?_eq_some_iff.mp hz).1
      have hi2 := hw.most
      obtain ⟨z1, z2⟩ := hw.items z (List.mem_of_getElem? hz)
      refine ⟨rfl, .int z, rfl, z, 0, 11, rfl, ?_⟩
      rw [decide_eq_true (show (0 : Int) ≤ z by omega), decide_eq_true (show z ≤ 11 by omega)]
      refine ⟨_, h.2, ?_, fun y o e => ?_, ?_⟩
      · rw [List.length_map, List.length_replicate]
        exact small1000 (by omega)
      · rw [upd_ne (ne_of_none e hD)]
        exact h.1 _ _ e
      · rw [upd_same, List.replicate_succ', List.map_append]
        rfl
    · refine ⟨D, _, rfl, .of h.2, ?_⟩
      rw [show (List.replicate (ws.map V.int).length true).all id = true from by rw [List.all_eq_true]; intro y hy; exact (List.mem_replicate.mp hy).2]
      exact q H' h.1
/-! ### _put_in -/
def spPutIn (K : PySem.W.Frag) : Sp := fun vs H Q _ => ∃ (a b : Addr) (x : Int) (ws rs : List Int), vs = [.ref a, .ref b] ∧ SqT K H a ((x :: rs).map V.int) ∧ SqT K H b (ws.map V.int) ∧ Waits ws rs ∧
  ∀ H' t, Same H H' → H t = none → FrzT H' t ((putN x ws rs ws.length).map V.int) → Q (.ref t) H'
theorem gap_map (w : Int) : (List.replicate w.toNat [V.int (-1)]).flatten = (gapL w).map V.int := by
  unfold gapL
  rw [List.map_replicate]
  induction w.toNat with
  | zero => rfl
  | succ n ih => rw [List.replicate_succ, List.flatten_cons, ih, List.replicate_succ]; rfl
theorem ok_put_in {f : Addr} {fd : FuncData} {k : Nat} (F : Fun K "_put_in" "_put_in" s_put_in f fd) (nN : ∃ t, mg "NOWHERE" = some (.int (-1) t))
    (m1 : mg "zip" = none) (m2 : mg "tuple" = none) : FnOk P w K mg base CX0 (k + 1) f fd ["work", "waits"] (spPutIn K) := by
  obtain ⟨t1, n1⟩ := nN
  refine F.ok sc_put_in (fun vs H Q E h => ?_) (fun cdv A outer s H vs Q E hr h => ?_)
  · obtain ⟨a, b, x, ws, rs, rfl, _⟩ := h; rfl
  · obtain ⟨a, b, x, ws, rs, rfl, hA, hB, hw, q⟩ := h
    refine ⟨_, pss_cons (ps_set (i := 2) sc_put_in.nd rfl (.inl rfl) (pe_lst (pa_cons (pe_ix ix_tup (pv 0) pe_int (fun _ _ => rfl)) pa_nil)))
      (pss_cons (ps_for PassesOwn.never rfl (RZ.pi_zipA (by rfl) m1 (pa_cons (pv 1) (pa_cons (pe_slice sl_tup (pv 0) (po_some pe_int) po_none) pa_nil)))
          (pg_tup rfl (pgs_cons (pg_name (i := 3) sc_put_in.nd rfl (.inl rfl)) (pgs_cons (pg_name (i := 4) sc_put_in.nd rfl (.inl rfl)) pgs_nil)))
        (pss_cons (ps_expr (pe_bm PySem.F.plainAttrs_list PySem.F.slot_list_extend PySem.F.type_list_extend mt_extend (pv 2)
            (pa_cons (pe_op op_rep (pe_lst (pa_cons (pe_glob (v := .int (-1)) (by rfl) n1 ⟨_, rfl⟩) pa_nil)) (pv 3)) pa_nil)))
        (pss_one (ps_expr (pe_bm PySem.F.plainAttrs_list PySem.F.slot_list_append PySem.F.type_list_append mt_append (pv 2) (pa_cons (pv 4) pa_nil))))))
      (pss_one (ps_ret (pe_callTy call_tupleF (by rfl) m2 (by decide +kernel) (pa_cons (pv 2) pa_nil))))), ?_⟩
    refine ⟨.ref a, rfl, a, _, 0, .int x, rfl, rfl, hA, atI0, by show 1 ≤ sizeLine; decide, fun I nI => ?_⟩
    have e1 : Same H (upd H I (.lst [V.int x])) := same_new nI
    have hI1 : (upd H I (.lst [V.int x])) I = some (.lst ((putN x ws rs 0).map V.int)) := upd_same
    generalize upd H I (.lst [V.int x]) = H1 at e1 hI1 ⊢
    have hcut : cutV ((x :: rs).map V.int) (some (1 : Int)) none = rs.map V.int := by
      rw [show (1 : Int) = ((1 : Nat) : Int) from rfl, cut_from]
      rfl
    refine ⟨.ref b, rfl, .ref a, rfl, 1, rfl, a, _, rfl, Same.tup e1 hA, ?_, fun c nc => ?_⟩
    · rintro ⟨z, _⟩
      rw [show (1 : Int) = ((1 : Nat) : Int) from rfl, HT.sIx_nat, List.length_map, List.length_cons] at z
      omega
    rw [hcut]
    have e2 : Same H1 (upd H1 c (.tup (rs.map V.int))) := same_new nc
    have hc2 : (upd H1 c (.tup (rs.map V.int))) c = some (.tup (rs.map V.int)) := upd_same
    have hI2 := e2 _ _ hI1
    generalize upd H1 c (.tup (rs.map V.int)) = H2 at e2 hc2 hI2 ⊢
    have nIc : I ≠ c := ne_of hI2 hc2 (fun z => nomatch z)
    refine ⟨b, c, _, _, rfl, .inr ⟨Same.tup (e1.trans e2) hB, .of hc2, ?_⟩⟩
    have len := hw.len
    have most := hw.most
    refine for_it (walk_zipT (xs := ws.map V.int) (ys := rs.map V.int) (n := ws.length) (by rw [List.length_map, List.length_map, len, Nat.min_self]))
      (fun i σ H' => ∃ v3 v4, σ = [some (.ref a), some (.ref b), some (.ref I), v3, v4] ∧ Same H H' ∧ H' I = some (.lst ((putN x ws rs i).map V.int)) ∧ H' c = some (.tup (rs.map V.int)))
      ⟨_, _, rfl, e1.trans e2, hI2, hc2⟩ (fun i σ H' _ h => ?_) (fun i y σ H' H'' hi h hY => ?_) (fun σ H' h => ?_)
    · obtain ⟨_, _, _, e, _, hc⟩ := h
      exact ⟨Same.tup e hB, .of hc⟩
    · obtain ⟨v3, v4, rfl, e, hI, hc⟩ := h
      obtain ⟨T, x1, x2, rfl, nT, rfl, f1, f2⟩ := hY
      dsimp only at f1 f2
      rw [List.getElem?_map] at f1 f2
      obtain ⟨z1, hz1, rfl⟩ := Option.map_eq_some_iff.mp f1
      obtain ⟨z2, hz2, rfl⟩ := Option.map_eq_some_iff.mp f2
      obtain ⟨w1, w2⟩ := hw.items z1 (List.mem_of_getElem? hz1)
      have eT : Same H' (upd H' T (.tup [V.int z1, .int z2])) := same_new nT
      refine ⟨T, _, rfl, .of upd_same, rfl, _, _, rfl, _, _, rfl, rfl, ?_⟩
      have hI3 := eT _ _ hI
      have hc3 := eT _ _ hc
      have e3 := e.trans eT
      generalize upd H' T (.tup [V.int z1, .int z2]) = H3 at eT hI3 hc3 e3 ⊢
      refine ⟨.ref I, rfl, .inl ⟨rfl, _, .of hI3⟩, by show 1 ≤ sizeLine; decide, fun g ng => ⟨.int z1, rfl, g, z1, _, rfl, rfl, upd_same, by omega, by omega, ?_, fun r nr => ?_⟩⟩
      · show 1 * z1.toNat ≤ sizeLine
        rw [sizeLine_eq]; omega
      rw [gap_map]
      have nIg : I ≠ g := ne_of_none hI3 ng
      have hI4 : (upd H3 g (.lst [V.int (-1)])) I = some (.lst ((putN x ws rs i).map V.int)) := by rw [upd_ne nIg]; exact hI3
      have nIr : I ≠ r := ne_of_none hI4 nr
      have pl := put_len hw x i
      have gl : (gapL z1).length ≤ 11 := by
        have := gap_len hw i
        rw [List.getD_eq_getElem?_getD, hz1] at this
        exact this
      refine ⟨I, r, _, _, rfl, rfl, by rw [upd_ne nIr]; exact hI4, upd_same, ?_, ?_⟩
      · rw [List.length_map, List.length_map, sizeLine_eq]; omega
      rw [← List.map_append]
      refine ⟨.ref I, rfl, .inl ⟨rfl, _, .of upd_same⟩, .int z2, rfl, I, _, _, rfl, rfl, upd_same, ?_, ?_⟩
      · rw [List.length_map, List.length_append, sizeLine_eq]; omega
      have ev : (List.map V.int (putN x ws rs i ++ gapL z1) ++ [V.int z2]) = (putN x ws rs (i + 1)).map V.int := by
        rw [putN_succ, List.getD_eq_getElem?_getD, List.getD_eq_getElem?_getD, hz1, hz2, List.map_append, List.map_append, List.map_append]
        rfl
      rw [ev]
      refine ⟨_, _, rfl, fun q o h => ?_, upd_same, ?_⟩
      · have h3 := e3 _ _ h
        have n1 : q ≠ I := ne_of_none h nI
        have n2 : q ≠ g := ne_of_none h3 ng
        have n3 : q ≠ r := ne_of_none (show (upd H3 g (.lst [V.int (-1)])) q = some o by rw [upd_ne n2]; exact h3) nr
        rw [upd_ne n1, upd_ne n1, upd_ne n3, upd_ne n2]
        exact h3
      · have n2 : c ≠ g := ne_of_none hc3 ng
        have n3 : c ≠ r := ne_of_none (show (upd H3 g (.lst [V.int (-1)])) c = some (.tup (rs.map V.int)) by rw [upd_ne n2]; exact hc3) nr
        rw [upd_ne nIc.symm, upd_ne nIc.symm, upd_ne n3, upd_ne n2]
        exact hc3
    · obtain ⟨v3, v4, rfl, e, hI, hc⟩ := h
      refine ⟨.ref I, rfl, I, _, rfl, .of hI, fun t ob nt c1 c2 => q _ t (e.trans (same_new nt)) ?_ ⟨ob, upd_same, c1, c2⟩⟩
      rcases z : H t with _ | o
      · rfl
      · rw [e _ _ z] at nt
        exact nomatch nt
/-! ### stretched -/
def spStretched (K : PySem.W.Frag) : Sp := fun vs H Q _ => ∃ (a b : Addr) (x : Int) (ws rs : List Int), vs = [.ref a, .ref b] ∧ SqT K H a ((x :: rs).map V.int) ∧ SqT K H b (ws.map V.int) ∧ Waits ws rs ∧ IsWork (x :: rs) ∧
  ∀ H' t, Same H H' → H t = none → FrzT H' t ((putN x ws rs ws.length).map V.int) → Q (.ref t) H'
theorem ok_stretched {f f1 f2 f3 : Addr} {fd fd1 fd2 fd3 : FuncData} {k : Nat} (F : Fun K "stretched" "stretched" s_stretched f fd)
    (G1 : FnOk P w K mg base CX0 k f1 fd1 ["thing"] (spReq K)) (kp1 : PySem.W.keepIn K (.ref f1) = true) (b1 : Binds K fd1 ["thing"] []) (g1 : mg "require_work" = some (.ref f1))
    (G2 : FnOk P w K mg base CX0 k f2 fd2 ["work", "thing"] (spIsWaits K)) (kp2 : PySem.W.keepIn K (.ref f2) = true) (b2 : Binds K fd2 ["work", "thing"] []) (g2 : mg "_is_waits" = some (.ref f2))
    (G3 : FnOk P w K mg base CX0 k f3 fd3 ["work", "waits"] (spPutIn K)) (kp3 : PySem.W.keepIn K (.ref f3) = true) (b3 : Binds K fd3 ["work", "waits"] []) (g3 : mg "_put_in" = some (.ref f3)) :
    FnOk P w K mg base CX0 (k + 1) f fd ["work", "waits"] (spStretched K) := by
  refine F.ok sc_stretched (fun vs H Q E h => ?_) (fun cdv A outer s H vs Q E hr h => ?_)
  · obtain ⟨a, b, x, ws, rs, rfl, _⟩ := h; rfl
  · obtain ⟨a, b, x, ws, rs, rfl, hA, hB, hw, hk, q⟩ := h
    refine ⟨_, pss_cons (ps_expr (pe_call G1 hr (by rfl) g1 kp1 b1 .nil pass0 (pa_cons (pv 0) pa_nil)))
      (pss_cons (ps_if (pt_not (pt_val (pe_call G2 hr (by rfl) g2 kp2 b2 .nil pass0 (pa_cons (pv 0) (pa_cons (pv 1) pa_nil))))) (pss_one ps_never) pss_nil)
      (pss_one (ps_ret (pe_call G3 hr (by rfl) g3 kp3 b3 .nil pass0 (pa_cons (pv 0) (pa_cons (pv 1) pa_nil)))))), ?_⟩
    refine ⟨.ref a, rfl, a, _, rfl, hA, hk, fun H1 e1 => ?_⟩
    refine ⟨.ref a, rfl, .ref b, rfl, a, b, x, ws, rs, rfl, Same.tup e1 hA, Same.tup e1 hB, hw, fun H2 e2 => ⟨true, rfl, iteF ?_⟩⟩
    have e12 := e1.trans e2
    refine ⟨.ref a, rfl, .ref b, rfl, a, b, x, ws, rs, rfl, Same.tup e12 hA, Same.tup e12 hB, hw, fun H3 t e3 nt ht => q H3 t (e12.trans e3) ?_ ht⟩
    rcases z : H t with _ | o
    · rfl
    · rw [e12 _ _ z] at nt
      exact nomatch nt
end
end Sg
set_option Elab.async false
set_option linter.all false
set_option maxRecDepth 100000
set_option maxHeartbeats 4000000
namespace Sg
open PySem PySem.Spec PyProof.Rows L2 StX
/-! ## the mathematics: stations and rests -/
def prOf (d : Int) (x : Int) (t : Nat) : List (Int × Int) := if x = -1 then [] else [(x, (t : Int) % d)]
def prs (ns : List Int) (d : Int) (i : Nat) : List (Int × Int) := (List.range i).flatMap fun t => match ns[t]? with
  | some x => prOf d x t
  | none => []
theorem prs_succ {ns : List Int} {d : Int} {i : Nat} {x : Int} (h : ns[i]? = some x) : prs ns d (i + 1) = prs ns d i ++ prOf d x i := by
  unfold prs
  rw [List.range_succ, List.flatMap_append, List.flatMap_cons, List.flatMap_nil, List.append_nil, h]
theorem prs_len (ns : List Int) (d : Int) : ∀ i, (prs ns d i).length ≤ i
  | 0 => Nat.le_refl _
  | i + 1 => by
    have ih := prs_len ns d i
    rcases h : ns[i]? with _ | x
    · unfold prs at ih ⊢
      rw [List.range_succ, List.flatMap_append, List.flatMap_cons, List.flatMap_nil, List.append_nil, h, List.append_nil]
      omega
    · rw [prs_succ h, List.length_append]
      unfold prOf
      split
      · simp only [List.length_nil]; omega
      · show _ + 1 ≤ _; omega
def constB (ns : List Int) (d : Int) : Bool := decide (prs ns d ns.length).Nodup
def constTo (ns : List Int) (i : Nat) : List Int := ((List.range i).map fun j => (1 : Int) + (j : Nat)).filter (constB ns)
theorem constTo_succ (ns : List Int) (i : Nat) : constTo ns (i + 1) = constTo ns i ++ (if constB ns (1 + (i : Int)) = true then [1 + (i : Int)] else []) := by
  unfold constTo
  rw [List.range_succ, List.map_append, List.filter_append]
  congr 1
  by_cases h : constB ns (1 + (i : Int)) = true
  · rw [if_pos h]; exact List.filter_cons_of_pos h
  · rw [if_neg h]; exact List.filter_cons_of_neg h
theorem constTo_len (ns : List Int) (i : Nat) : (constTo ns i).length ≤ i := by
  unfold constTo
  have := List.length_filter_le (constB ns) ((List.range i).map fun j => (1 : Int) + (j : Nat))
  rw [List.length_map, List.length_range] at this
  exact this
theorem constTo_items {ns : List Int} {i : Nat} {x : Int} (h : x ∈ constTo ns i) : 1 ≤ x ∧ x ≤ i := by
  obtain ⟨h1, _⟩ := List.mem_filter.mp h
  obtain ⟨j, hj, rfl⟩ := List.mem_map.mp h1
  have := List.mem_range.mp hj
  omega
abbrev pairL (p : Int × Int) : List Int := [p.1, p.2]
theorem pairL_nodup (l : List (Int × Int)) : (l.map pairL).Nodup ↔ l.Nodup := by
  constructor
  · exact fun h => nodup_of_map h
  · intro h
    induction l with
    | nil => exact List.nodup_nil
    | cons x r ih =>
      obtain ⟨h1, h2⟩ := List.nodup_cons.mp h
      refine List.nodup_cons.mpr ⟨fun z => h1 ?_, ih h2⟩
      obtain ⟨y, hy, e⟩ := List.mem_map.mp z
      have e1 := (List.cons.inj e).1
      have e2 := (List.cons.inj (List.cons.inj e).2).1
      rw [show x = y from Prod.ext e1.symm e2.symm]
      exact hy
section
variable {P : Program} {w : World} {K : PySem.W.Frag} {mg : Str → Option Value} {base : Heap}
/-! ### is_constant -/
def spIsConst (K : PySem.W.Frag) : Sp := fun vs H Q _ => ∃ (a : Addr) (ns : List Int) (d : Int), vs = [.ref a, .int d] ∧ SqT K H a (ns.map V.int) ∧ ns.length ≤ 1000 ∧ (prs ns d ns.length).length < 64 ∧ 1 ≤ d ∧ ∀ H', Same H H' → Q (.bl (constB ns d)) H'
abbrev constN : List Str := ["items", "distance", "places", "tick", "station"]
theorem ok_is_constant {f : Addr} {fd : FuncData} {k : Nat} (F : Fun K "is_constant" "is_constant" s_is_constant f fd) (nN : ∃ t, mg "NOWHERE" = some (.int (-1) t))
    (m1 : mg "enumerate" = none) (m2 : mg "len" = none) (m3 : mg "set" = none) : FnOk P w K mg base CX0 (k + 1) f fd ["items", "distance"] (spIsConst K) := by
  obtain ⟨t1, n1⟩ := nN
  refine F.ok sc_is_constant (fun vs H Q E h => ?_) (fun cdv A outer s H vs Q E hr h => ?_)
  · obtain ⟨a, ns, d, rfl, _⟩ := h; rfl
  · obtain ⟨a, ns, d, rfl, hA, hl, hfew, hd, q⟩ := h
    have hu3 : (A.deeper (envOfC "is_constant" (defScope s_is_constant) s.heap.objs.size f cdv)).units + 3 < cLine := by have := hr.units; omega
    refine ⟨_, pss_cons (ps_setLc (i := 2) (own := [("tick", 3), ("station", 4)]) (g := gTup K 2 (gCons (gName 3) (gCons (gName 4) gNil))) (by rfl) sc_is_constant.nd rfl rfl (sw_true rfl rfl rfl (by decide +kernel)) (pi_enumT (by rfl) m1 (pa_cons (pv 0) pa_nil))
        (blkOk_by (N := constN) (sc := defScope s_is_constant) (by decide +kernel))
        (fun _ _ _ _ _ => pg_tup rfl (pgs_cons (pg_name (i := 3) sc_is_constant.nd rfl (Or.inl rfl)) (pgs_cons (pg_name (i := 4) sc_is_constant.nd rfl (Or.inl rfl)) pgs_nil)))
        (fun _ _ _ _ _ => pts_one (pt_cmpR op_ne (pv 4) (pe_glob (v := .int (-1)) (by rfl) n1 ⟨_, rfl⟩) (nomark _)))
        (fun _ _ _ _ _ => pe_tup (pa_cons (pv 4) (pa_cons (pe_op op_mod (pv 3) (pv 1)) pa_nil))))
      (pss_one (ps_ret (pe_cmpR op_eq (pe_lenSetT (K := K) rfl hu3 (by rfl) m2 (by rfl) m3 (pv 2)) (pe_callB call_len_seq (by rfl) m2 PySem.boot_len (pa_cons (pv 2) pa_nil)) (nomark _)))), ?_⟩
    refine ⟨.ref a, rfl, a, _, rfl, hA, fun D hD => ?_⟩
    have lm : (ns.map V.int).length = ns.length := List.length_map _
    refine lc_it (walk_enumT (xs := ns.map V.int)) (fun i H' => Same H H' ∧ ∃ ks : List (Addr × List Int), H' D = some (.lst (ks.map fun p => V.ref p.1)) ∧ (∀ p ∈ ks, SqT K H' p.1 (p.2.map V.int)) ∧ ks.map (·.2) = (prs ns d i).map pairL)
      ⟨same_new hD, [], upd_same, fun p hp => (nomatch hp), rfl⟩ (fun i H' _ h => Same.tup h.1 hA) (fun i x H' H'' hi h hY => ?_) (fun H' h => ?_)
    · obtain ⟨e1, ks, hK, hT, em⟩ := h
      obtain ⟨T, x1, x2, rfl, nT, rfl, f1, f2⟩ := hY
      dsimp only at f1 f2
      cases f1
      rw [List.getElem?_map] at f2
      obtain ⟨z, hz, rfl⟩ := Option.map_eq_some_iff.mp f2
      have eT : Same H' (upd H' T (.tup [V.int (i : Nat), .int z])) := same_new nT
      refine ⟨T, _, rfl, .of upd_same, rfl, _, _, rfl, _, _, rfl, rfl, rfl, ?_⟩
      have hK2 := eT _ _ hK
      have e2 := e1.trans eT
      have hT2 : ∀ p ∈ ks, SqT K (upd H' T (.tup [V.int (i : Nat), .int z])) p.1 (p.2.map V.int) := fun p hp => Same.tup eT (hT p hp)
      generalize upd H' T (.tup [V.int (i : Nat), .int z]) = H2 at hK2 e2 hT2 ⊢
      rw [prs_succ hz]
      refine ⟨.int z, rfl, rfl, ?_⟩
      by_cases hz1 : z = -1
      · rw [show (!decide (V.int z = V.int (-1))) = false from by rw [hz1, decide_eq_true rfl]; rfl]
        refine ⟨_, rfl, iteF ⟨e2, ks, hK2, hT2, ?_⟩⟩
        rw [show prOf d z i = [] from if_pos hz1, List.append_nil]
        exact em
      · rw [show (!decide (V.int z = V.int (-1))) = true from by rw [decide_eq_false fun y => hz1 (V.int.inj y)]; rfl]
        refine ⟨_, rfl, iteT ⟨.int z, rfl, .int (i : Nat), rfl, .int d, rfl, (i : Nat), d, rfl, rfl, by show (0 : Int) < d; omega, by show 2 ≤ sizeLine; decide, fun c nc => ?_⟩⟩
        have ec : Same H2 (upd H2 c (.tup [V.int z, .int ((i : Int) % d)])) := same_new nc
        have hc : (upd H2 c (.tup [V.int z, .int ((i : Int) % d)])) c = some (.tup [V.int z, .int ((i : Int) % d)]) := upd_same
        have nDc : D ≠ c := ne_of_none hK2 nc
        have hK3 := ec _ _ hK2
        have hT3 : ∀ p ∈ ks, SqT K (upd H2 c (.tup [V.int z, .int ((i : Int) % d)])) p.1 (p.2.map V.int) := fun p hp => Same.tup ec (hT2 p hp)
        have e3 := e2.trans ec
        show ∃ acc, (upd H2 c (.tup [V.int z, .int ((i : Int) % d)])) D = some (.lst acc) ∧ _
        generalize upd H2 c (.tup [V.int z, .int ((i : Int) % d)]) = H3 at ec hc hK3 hT3 e3 ⊢
        have lk : ks.length ≤ i := by
          have z1 := congrArg List.length em
          rw [List.length_map, List.length_map] at z1
          have := prs_len ns d i
          omega
        refine ⟨_, hK3, ?_, fun b o e => ?_, ks ++ [(c, [z, (i : Int) % d])], ?_, fun p hp => ?_, ?_⟩
        · rw [List.length_map]; exact small1000 (by omega)
        · rw [upd_ne (ne_of_none e hD)]
          exact e3 _ _ e
        · rw [upd_same, List.map_append]; rfl
        · rcases List.mem_append.mp hp with h | h
          · exact tup_upd hK3 (fun _ z => nomatch z) (fun _ _ z => nomatch z) (hT3 p h)
          · rw [List.mem_singleton.mp h]
            exact .of (by rw [upd_ne nDc.symm]; exact hc)
        · rw [List.map_append, List.map_append, em, show prOf d z i = [(z, (i : Int) % d)] from if_neg hz1]
          rfl
    · obtain ⟨e1, ks, hK, hT, em⟩ := h
      rw [lm] at em
      have lk := congrArg List.length em
      rw [List.length_map, List.length_map] at lk
      refine ⟨.ref D, rfl, D, ks, rfl, .of hK, hT, by omega, fun n hn => ⟨.ref D, rfl, D, _, rfl, .inl (.of hK), rfl, ?_⟩⟩
      have ev : decide (V.int (n : Nat) = V.int ((ks.map fun p => V.ref p.1).length : Nat)) = constB ns d := by
        unfold constB
        rw [em, pairL_nodup] at hn
        rw [List.length_map]
        by_cases h : (prs ns d ns.length).Nodup
        · rw [decide_eq_true h, hn.mpr h, decide_eq_true rfl]
        · rw [decide_eq_false h, decide_eq_false fun y => h (hn.mp (by have := V.int.inj y; omega))]
      rw [ev]
      exact q H' e1
/-! ### constants -/
def spConstants (K : PySem.W.Frag) : Sp := fun vs H Q _ => ∃ (a : Addr) (ns : List Int), vs = [.ref a] ∧ SqT K H a (ns.map V.int) ∧ IsWork ns ∧
  ∀ H' t, Same H H' → H t = none → H' t = some (.tup ((constTo ns ns.length).map V.int)) → Q (.ref t) H'
theorem ok_constants {f f1 f2 : Addr} {fd fd1 fd2 : FuncData} {k : Nat} (F : Fun K "constants" "constants" s_constants f fd)
    (G1 : FnOk P w K mg base CX0 k f1 fd1 ["thing"] (spReq K)) (kp1 : PySem.W.keepIn K (.ref f1) = true) (b1 : Binds K fd1 ["thing"] []) (g1 : mg "require_work" = some (.ref f1))
    (G2 : FnOk P w K mg base CX0 k f2 fd2 ["items", "distance"] (spIsConst K)) (kp2 : PySem.W.keepIn K (.ref f2) = true) (b2 : Binds K fd2 ["items", "distance"] []) (g2 : mg "is_constant" = some (.ref f2))
    (m1 : mg "tuple" = none) (m2 : mg "range" = none) (m3 : mg "len" = none) : FnOk P w K mg base CX0 (k + 1) f fd ["work"] (spConstants K) := by
  refine F.ok sc_constants (fun vs H Q E h => ?_) (fun cdv A outer s H vs Q E hr h => ?_)
  · obtain ⟨a, ns, rfl, _⟩ := h; rfl
  · obtain ⟨a, ns, rfl, hA, hw, q⟩ := h
    refine ⟨_, pss_cons (ps_expr (pe_call G1 hr (by rfl) g1 kp1 b1 .nil pass0 (pa_cons (pv 0) pa_nil)))
      (pss_one (ps_ret (pe_callTy (call_tuple_ofK (K := K) rfl) (by rfl) m1 (by decide +kernel) (pa_cons
        (pe_lc (own := [("distance", 1)]) (g := gName 1) (by rfl) sc_constants.nd (pi_range2 (by rfl) m2 (pa_cons pe_int (pa_cons (pe_op op_add (pe_callB call_len_seq (by rfl) m3 PySem.boot_len (pa_cons (pv 0) pa_nil)) pe_int) pa_nil))) (blkOk_by (N := ["work", "distance"]) (sc := defScope s_constants) (by decide +kernel))
          (fun _ _ _ _ _ => pg_name (i := 1) sc_constants.nd rfl (Or.inl rfl))
          (fun _ _ _ _ _ => pts_one (pt_val (pe_call G2 hr (by rfl) g2 kp2 b2 .nil pass0 (pa_cons (pv 0) (pa_cons (pv 1) pa_nil)))))
          (fun _ _ _ _ _ => pv 1)) pa_nil)))), ?_⟩
    have lm : (ns.map V.int).length = ns.length := List.length_map _
    have most := hw.most
    refine ⟨.ref a, rfl, a, ns, rfl, hA, hw, fun H1 e1 => ?_⟩
    refine ⟨.ref a, rfl, a, _, rfl, .inr (Same.tup e1 hA), _, 1, rfl, rfl, 1, (((ns.map V.int).length : Nat) : Int) + 1, rfl, ⟨by omega, by omega, by omega, by omega⟩, fun D hD => ?_⟩
    have en : ((((ns.map V.int).length : Nat) : Int) + 1 - 1).toNat = ns.length := by rw [lm]; omega
    rw [en]
    refine lc_range (lo := 1) (n := ns.length) (fun i H' => Same H H' ∧ H' D = some (.lst ((constTo ns i).map V.int))) ⟨e1.trans (same_new hD), upd_same⟩ (fun i H' hi h => ?_) (fun H' h => ?_)
    · obtain ⟨e2, hD2⟩ := h
      have pl := prs_len ns (1 + (i : Int)) ns.length
      refine ⟨rfl, .ref a, rfl, .int (1 + (i : Nat)), rfl, a, ns, 1 + (i : Nat), rfl, Same.tup e2 hA, by omega, by omega, by omega, fun H3 e3 => ⟨_, rfl, ?_⟩⟩
      rw [constTo_succ]
      have hD3 := e3 _ _ hD2
      have hDH : H D = none := freeS e1 hD
      by_cases hc : constB ns (1 + (i : Int)) = true
      · rw [hc, if_pos rfl]
        refine iteT ⟨_, rfl, _, hD3, ?_, fun b o e => ?_, ?_⟩
        · rw [List.length_map]
          have := constTo_len ns i
          exact small1000 (by omega)
        · rw [upd_ne (ne_of_none e hDH)]
          exact e3 _ _ (e2 _ _ e)
        · rw [upd_same, List.map_append]; rfl
      · have hc' : constB ns (1 + (i : Int)) = false := by cases z : constB ns (1 + (i : Int)) <;> simp_all
        rw [hc', if_neg (by decide), List.append_nil]
        exact iteF ⟨e2.trans e3, hD3⟩
    · obtain ⟨e2, hD2⟩ := h
      exact ⟨D, _, rfl, .inl ⟨.of hD2, fun t nt => q _ t (e2.trans (same_new nt)) (freeS e2 nt) upd_same⟩⟩
end
end Sg
set_option Elab.async false
set_option linter.all false
set_option maxRecDepth 100000
set_option maxHeartbeats 4000000
namespace Sg
open PySem
/-- there is a way, if no station is visited more often than the distance -/
theorem has_way {ns : List Int} {d : Nat} (hw : IsWork ns) (hd : 1 ≤ d) (hc : ∀ x ∈ ns, x ≠ -1 → ns.count x ≤ d) : ∃ v, Fz ns d v := by
  have hp := hw.pos
  have n0 : ns.getD 0 0 ≠ -1 := by
    have : ns[0]? = some ns[0] := List.getElem?_eq_getElem (by omega)
    rw [List.getD_eq_getElem?_getD, this]
    exact hw.head _ this
  have hc2 : ∀ x : Int, x ≠ -1 → ns.count x ≤ d := fun x nx => by
    by_cases hx : x ∈ ns
    · exact hc x hx nx
    · rw [List.count_eq_zero.mpr hx]; exact Nat.zero_le _
  obtain ⟨v, v1, v2, v3⟩ := some_way hd hc2 (ns.length - 1) 1 0 (T0 ns) (by omega) (cnt_first hp n0 hd)
  exact ⟨v, by omega, v2, by rw [go_iff hd v 1 0 _ _ (rel_first n0 hd) (by omega)]; exact v3⟩
/-! ## the least waits, as a function -/
theorem least_in : ∀ (L : List (List Nat)), L ≠ [] → ∃ m ∈ L, ∀ x ∈ L, wLt (Wt x) (Wt m) = false
  | [], h => absurd rfl h
  | [a], _ => ⟨a, List.mem_cons_self, fun x hx => by
      rw [List.mem_singleton.mp hx]
      cases h : wLt (Wt a) (Wt a) with
      | false => rfl
      | true => have := wLt_asym h; rw [h] at this; exact nomatch this⟩
  | a :: b :: L, _ => by
    obtain ⟨m, hm, le⟩ := least_in (b :: L) (fun z => nomatch z)
    by_cases h : wLt (Wt a) (Wt m) = true
    · refine ⟨a, List.mem_cons_self, fun x hx => ?_⟩
      rcases List.mem_cons.mp hx with rfl | hx
      · cases h : wLt (Wt x) (Wt x) with
        | false => rfl
        | true => have := wLt_asym h; rw [h] at this; exact nomatch this
      · exact wLt_neg (le x hx) (wLt_asym h)
    · refine ⟨m, List.mem_cons_of_mem _ hm, fun x hx => ?_⟩
      rcases List.mem_cons.mp hx with rfl | hx
      · simpa using h
      · exact le x hx
theorem best_exists {ns : List Int} {d : Nat} (h : ∃ v, Fz ns d v) : ∃ ws, Best ns d ws := by
  classical
  obtain ⟨v, hv⟩ := h
  have mem : ∀ u, Fz ns d u → u ∈ (allV d (ns.length - 1)).filter fun u => decide (Fz ns d u) := fun u hu =>
    List.mem_filter.mpr ⟨allV_mem d _ u (by have := hu.len; omega) hu.lt, decide_eq_true hu⟩
  obtain ⟨m, hm, le⟩ := least_in _ (List.ne_nil_of_mem (mem v hv))
  exact ⟨m, of_decide_eq_true (List.mem_filter.mp hm).2, fun u hu => le u (mem u hu)⟩
open Classical in
noncomputable def lw (ns : List Int) (d : Nat) : List Nat := if h : ∃ ws, Best ns d ws then Classical.choose h else []
theorem lw_best {ns : List Int} {d : Nat} (h : ∃ ws, Best ns d ws) : Best ns d (lw ns d) := by
  unfold lw
  rw [dif_pos h]
  exact Classical.choose_spec h
/-! ## distances that need no waits -/
theorem prs_mem {ns : List Int} {d x r : Int} : ∀ {i : Nat}, i ≤ ns.length → ((x, r) ∈ prs ns d i ↔ x ≠ -1 ∧ ∃ t, t < i ∧ ns[t]? = some x ∧ (t : Int) % d = r)
  | 0, _ => by
    constructor
    · intro h; exact nomatch h
    · rintro ⟨_, t, ht, _⟩; exact absurd ht (Nat.not_lt_zero _)
  | i + 1, hi => by
    have hz : ns[i]? = some ns[i] := List.getElem?_eq_getElem (by omega)
    have ih := prs_mem (ns := ns) (d := d) (x := x) (r := r) (i := i) (by omega)
    rw [prs_succ hz, List.mem_append, ih]
    constructor
    · rintro (⟨nx, t, ht, h1, h2⟩ | h)
      · exact ⟨nx, t, by omega, h1, h2⟩
      · unfold prOf at h
        split at h
        · exact nomatch h
        · rename_i ne
          have e := List.mem_singleton.mp h
          obtain ⟨e1, e2⟩ := Prod.mk.inj e
          exact ⟨by rw [e1]; exact ne, i, by omega, by rw [hz, e1], e2.symm⟩
    · rintro ⟨nx, t, ht, h1, h2⟩
      by_cases e : t = i
      · subst e
        rw [hz] at h1
        have e1 := Option.some.inj h1
        refine .inr ?_
        unfold prOf
        rw [if_neg (by rw [e1]; exact nx), e1, h2]
        exact List.mem_singleton.mpr rfl
      · exact .inl ⟨nx, t, by omega, h1, h2⟩
theorem prs_nodup_le {ns : List Int} {d : Int} {i j : Nat} (hij : i ≤ j) (hj : j ≤ ns.length) (h : (prs ns d j).Nodup) : (prs ns d i).Nodup := by
  have : ∀ m, i + m ≤ ns.length → List.Sublist (prs ns d i) (prs ns d (i + m)) := by
    intro m
    induction m with
    | zero => intro _; exact List.Sublist.refl _
    | succ m ih =>
      intro hm
      have hz : ns[i + m]? = some ns[i + m] := List.getElem?_eq_getElem (by omega)
      rw [show i + (m + 1) = (i + m) + 1 from rfl, prs_succ hz]
      exact (ih (by omega)).trans (List.sublist_append_left _ _)
  have s := this (j - i) (by omega)
  rw [show i + (j - i) = j from by omega] at s
  exact h.sublist s
theorem prs_filter {ns : List Int} {d x : Int} (nx : x ≠ -1) : ∀ i, i ≤ ns.length → ((prs ns d i).filter fun p => decide (p.1 = x)).length = (ns.take i).count x
  | 0, _ => by rw [List.take_zero, List.count_nil]; rfl
  | i + 1, hi => by
    have hz : ns[i]? = some ns[i] := List.getElem?_eq_getElem (by omega)
    have ez : ns.getD i 0 = ns[i] := by rw [List.getD_eq_getElem?_getD, hz]; rfl
    rw [prs_succ hz, List.filter_append, List.length_append, prs_filter nx i (by omega), take_at (by omega), List.count_append, ez]
    congr 1
    unfold prOf
    split
    · rename_i e
      rw [e]
      have : List.count x [(-1 : Int)] = 0 := List.count_eq_zero.mpr fun z => nx (List.mem_singleton.mp z)
      rw [this]; rfl
    · exact filt_one _ _ _
theorem const_visits {ns : List Int} {d : Nat} (hd : 1 ≤ d) (h : constB ns (d : Int) = true) {x : Int} (nx : x ≠ -1) : ns.count x ≤ d := by
  have nd := of_decide_eq_true h
  have e := prs_filter (ns := ns) (d := (d : Int)) nx ns.length (Nat.le_refl _)
  rw [List.take_length] at e
  rw [← e]
  have := nodup_len_le ((prs ns (d : Int) ns.length).filter fun p => decide (p.1 = x)) ((List.range d).map fun r => ((x, ((r : Nat) : Int)) : Int × Int)) (nd.filter _) fun p hp => by
    obtain ⟨h1, h2⟩ := List.mem_filter.mp hp
    obtain ⟨a, b⟩ := p
    obtain ⟨_, t, _, _, h3⟩ := (prs_mem (Nat.le_refl _)).mp h1
    have r1 := Int.emod_nonneg (t : Int) (show (d : Int) ≠ 0 by omega)
    have r2 := Int.emod_lt_of_pos (t : Int) (show (0 : Int) < (d : Int) by omega)
    refine List.mem_map.mpr ⟨b.toNat, List.mem_range.mpr (by omega), ?_⟩
    exact Prod.ext (of_decide_eq_true h2).symm (by show ((b.toNat : Nat) : Int) = b; omega)
  rw [List.length_map, List.length_range] at this
  exact this
/-- at its own length a work is constant -/
theorem const_len (ns : List Int) (d : Nat) (h : ns.length ≤ d) : constB ns (d : Int) = true := by
  unfold constB
  refine decide_eq_true ?_
  have : ∀ i, i ≤ ns.length → (prs ns (d : Int) i).Nodup := by
    intro i
    induction i with
    | zero => intro _; exact List.nodup_nil
    | succ i ih =>
      intro hi
      have hz : ns[i]? = some ns[i] := List.getElem?_eq_getElem (by omega)
      rw [prs_succ hz, List.nodup_append]
      refine ⟨ih (by omega), ?_, fun a ha b hb e => ?_⟩
      · unfold prOf
        split
        · exact List.nodup_nil
        · exact List.nodup_cons.mpr ⟨List.not_mem_nil, List.nodup_nil⟩
      · unfold prOf at hb
        split at hb
        · exact nomatch hb
        · rw [List.mem_singleton.mp hb] at e
          subst e
          obtain ⟨_, t, ht, _, h3⟩ := (prs_mem (by omega)).mp ha
          rw [Int.emod_eq_of_lt (by omega) (by omega), Int.emod_eq_of_lt (by omega) (by omega)] at h3
          omega
  exact this ns.length (Nat.le_refl _)
theorem zero_way {ns : List Int} {d : Nat} (hd : 1 ≤ d) (h : (prs ns (d : Int) ns.length).Nodup) : ∀ (n at_ : Nat) (tk : List Plc), at_ + n = ns.length → (∀ p ∈ tk, p ∈ prs ns (d : Int) at_) → (goL ns d at_ 0 tk (List.replicate n 0)).isSome = true
  | 0, _, _, _, _ => rfl
  | n + 1, at_, tk, hl, hp => by
    have hz : ns[at_]? = some ns[at_] := List.getElem?_eq_getElem (by omega)
    have ez : ns.getD at_ 0 = ns[at_] := by rw [List.getD_eq_getElem?_getD, hz]; rfl
    have nd := prs_nodup_le (i := at_ + 1) (by omega) (Nat.le_refl _) h
    have es := prs_succ (d := (d : Int)) hz
    rw [es] at nd
    have step : ∃ t, lawOne ns d at_ 0 tk 0 = some t ∧ ∀ p ∈ t, p ∈ prs ns (d : Int) (at_ + 1) := by
      unfold lawOne
      by_cases hm : ns.getD at_ 0 = -1
      · exact ⟨tk, if_pos hm, fun p hp' => by rw [es]; exact List.mem_append_left _ (hp p hp')⟩
      · rw [if_neg hm]
        have e1 : prOf (d : Int) ns[at_] at_ = [spotAt ns d at_ 0 0] := by
          unfold prOf
          rw [if_neg (by rw [← ez]; exact hm)]
          unfold spotAt
          rw [ez]; rfl
        rw [e1] at nd es
        have hn : spotAt ns d at_ 0 0 ∉ tk := fun z => (List.nodup_append.mp nd).2.2 _ (hp _ z) _ (List.mem_singleton.mpr rfl) rfl
        refine ⟨_, if_neg hn, fun p hp' => ?_⟩
        rw [es]
        rcases List.mem_append.mp ((sortP_perm _).mem_iff.mp hp') with z | z
        · exact List.mem_append_left _ (hp p z)
        · exact List.mem_append_right _ z
    obtain ⟨t, e, ht⟩ := step
    rw [List.replicate_succ]
    show (match lawOne ns d at_ 0 tk 0 with
      | none => none
      | some t => goL ns d (at_ + 1) (0 + 0) t (List.replicate n 0)).isSome = true
    rw [e]
    exact zero_way hd h n (at_ + 1) t (by omega) ht
theorem const_sum {ns : List Int} {d : Nat} (hw : IsWork ns) (hd : 1 ≤ d) (h : constB ns (d : Int) = true) : (wI (lw ns d)).sum = 0 := by
  have hp := hw.pos
  have n0 : ns.getD 0 0 ≠ -1 := by
    have : ns[0]? = some ns[0] := List.getElem?_eq_getElem (by omega)
    rw [List.getD_eq_getElem?_getD, this]
    exact hw.head _ this
  have hz : ns[0]? = some ns[0] := List.getElem?_eq_getElem (by omega)
  have ez : ns.getD 0 0 = ns[0] := by rw [List.getD_eq_getElem?_getD, hz]; rfl
  have nd := of_decide_eq_true h
  have F : Fz ns d (List.replicate (ns.length - 1) 0) := by
    refine ⟨by rw [List.length_replicate]; omega, fun w hw' => by rw [List.eq_of_mem_replicate hw']; omega, ?_⟩
    rw [go_iff hd _ 1 0 _ _ (rel_first n0 hd) (by rw [List.length_replicate]; omega)]
    refine zero_way hd nd _ 1 _ (by omega) fun p hp' => ?_
    rw [List.mem_singleton.mp hp', prs_succ hz]
    refine List.mem_append_right _ ?_
    unfold prOf
    rw [if_neg (by rw [← ez]; exact n0), ez]
    refine List.mem_singleton.mpr (Prod.ext rfl ?_)
    show (0 : Int) = ((0 : Nat) : Int) % (d : Int)
    rw [Int.emod_eq_of_lt (by omega) (by omega)]; rfl
  have B := lw_best (best_exists ⟨_, F⟩)
  have le := B.least _ F
  have zs : ∀ n, (wI (List.replicate n 0)).sum = 0 := by
    intro n
    induction n with
    | zero => rfl
    | succ n ih =>
      rw [List.replicate_succ]
      show (((0 : Nat) : Int) :: wI (List.replicate n 0)).sum = 0
      rw [List.sum_cons, ih]; rfl
  have h0 := wI_pos (lw ns d)
  unfold wLt Wt at le
  dsimp only at le
  rw [zs] at le
  by_cases e : (0 : Int) = (wI (lw ns d)).sum
  · exact e.symm
  · rw [if_neg e, decide_eq_false_iff_not] at le
    omega
/-! ## what trade tells -/
theorem Mv.most {ns : List Int} (hw : IsWork ns) {m : Int} (h1 : ∃ x ∈ ns, x ≠ -1 ∧ m = (ns.count x : Int)) (h2 : ∀ x ∈ ns, x ≠ -1 → (ns.count x : Int) ≤ m) {m' : Int} (h : (m' ∈ (List.range 10).map fun k => ((ns.count ((k : Nat) : Int) : Nat) : Int)) ∧ ∀ y ∈ (List.range 10).map fun k => ((ns.count ((k : Nat) : Int) : Nat) : Int), y ≤ m') : m' = m := by
  obtain ⟨x, hx, nx, e⟩ := h1
  have i1 := hw.items x hx
  have a : m ≤ m' := by
    refine h.2 m (List.mem_map.mpr ⟨x.toNat, List.mem_range.mpr (by omega), ?_⟩)
    rw [show ((x.toNat : Nat) : Int) = x from by omega, e]
  obtain ⟨k, hk, ek⟩ := List.mem_map.mp h.1
  have m1 : 1 ≤ m := by rw [e]; have := List.count_pos_iff.mpr hx; omega
  have b : m' ≤ m := by
    by_cases hk0 : ((k : Nat) : Int) ∈ ns
    · rw [← ek]; exact h2 _ hk0 (by omega)
    · rw [List.count_eq_zero.mpr hk0] at ek; omega
  omega
/-- pairs from one distance on, so many -/
noncomputable def pairsT (ns : List Int) (m : Nat) (n : Nat) : List PyData := (List.range n).map fun j => tD [((m + j : Nat) : Int), (wI (lw ns (m + j))).sum]
/-- the least constant distance -/
def lcd (ns : List Int) (c : Nat) : Prop := 1 ≤ c ∧ c ≤ ns.length ∧ constB ns (c : Int) = true ∧ ∀ d : Nat, 1 ≤ d → d < c → constB ns (d : Int) = false
theorem lcd_first {ns : List Int} (h : 1 ≤ ns.length) : ∃ c, lcd ns c ∧ (constTo ns ns.length)[0]? = some (c : Int) := by
  have key : ∀ n m : Nat, m + n = ns.length → (∀ d : Nat, 1 ≤ d → d ≤ m → constB ns (d : Int) = false) → ∃ c, lcd ns c := by
    intro n
    induction n with
    | zero =>
      intro m hm hd
      have := hd ns.length h (by omega)
      rw [const_len ns ns.length (Nat.le_refl _)] at this
      exact nomatch this
    | succ n ih =>
      intro m hm hd
      cases hc : constB ns ((m + 1 : Nat) : Int) with
      | true => exact ⟨m + 1, by omega, by omega, hc, fun d h1 h2 => hd d h1 (by omega)⟩
      | false =>
        exact ih (m + 1) (by omega) fun d h1 h2 => by
          by_cases e : d = m + 1
          · rw [e]; exact hc
          · exact hd d h1 (by omega)
  obtain ⟨c, hc⟩ := key ns.length 0 (by omega) fun d h1 h2 => absurd h1 (by omega)
  refine ⟨c, hc, ?_⟩
  obtain ⟨c1, c2, c3, c4⟩ := hc
  have pre : ∀ i, i + 1 ≤ c → constTo ns i = [] := by
    intro i
    induction i with
    | zero => intro _; rfl
    | succ i ih =>
      intro hi
      rw [constTo_succ, ih (by omega), if_neg (by rw [show (1 : Int) + (i : Int) = ((i + 1 : Nat) : Int) from by omega, c4 (i + 1) (by omega) (by omega)]; decide)]; rfl
  have at_ : ∀ m, c + m ≤ ns.length → (constTo ns (c + m))[0]? = some (c : Int) := by
    intro m
    induction m with
    | zero =>
      intro _
      obtain ⟨e, rfl⟩ : ∃ e, c = e + 1 := ⟨c - 1, by omega⟩
      rw [Nat.add_zero, constTo_succ, pre e (by omega), if_pos (by rw [show (1 : Int) + (e : Int) = ((e + 1 : Nat) : Int) from by omega]; exact c3)]
      show some (1 + (e : Int)) = _
      congr 1; omega
    | succ m ih =>
      intro hm
      have := ih (by omega)
      rw [show c + (m + 1) = (c + m) + 1 from rfl, constTo_succ, List.getElem?_append_left (by
        cases hx : constTo ns (c + m) with
        | nil => rw [hx] at this; exact nomatch this
        | cons a l => exact Nat.succ_pos _)]
      exact this
  have := at_ (ns.length - c) (by omega)
  rw [show c + (ns.length - c) = ns.length from by omega] at this
  exact this
end Sg
set_option Elab.async false
set_option linter.all false
set_option maxRecDepth 100000
set_option maxHeartbeats 4000000
namespace Sg
open PySem PySem.Spec PyProof.Rows L2 StX
/-! ## the search, from its start -/
section
variable {P : Program} {w : World} {K : PySem.W.Frag} {mg : Str → Option Value} {base : Heap}
/-! ### _require_short, _require_stretch -/
def spShort (K : PySem.W.Frag) : Sp := fun vs H Q _ => ∃ (a : Addr) (ns : List Int), vs = [.ref a] ∧ SqT K H a (ns.map V.int) ∧ IsWork ns ∧ ns.length ≤ 12 ∧ ∀ H', Same H H' → Q .non H'
theorem ok_short {f f1 : Addr} {fd fd1 : FuncData} {k : Nat} (F : Fun K "_require_short" "_require_short" s_require_short f fd) (nT : ∃ t, mg "MOST_TICKS" = some (.int 12 t))
    (G1 : FnOk P w K mg base CX0 k f1 fd1 ["thing"] (spReq K)) (kp1 : PySem.W.keepIn K (.ref f1) = true) (b1 : Binds K fd1 ["thing"] []) (g1 : mg "require_work" = some (.ref f1))
    (m1 : mg "len" = none) : FnOk P w K mg base CX0 (k + 1) f fd ["work"] (spShort K) := by
  obtain ⟨t1, n1⟩ := nT
  refine F.ok sc_require_short (fun vs H Q E h => ?_) (fun cdv A outer s H vs Q E hr h => ?_)
  · obtain ⟨a, ns, rfl, _⟩ := h; rfl
  · obtain ⟨a, ns, rfl, hA, hw, hl, q⟩ := h
    refine ⟨_, pss_cons (ps_expr (pe_call G1 hr (by rfl) g1 kp1 b1 .nil pass0 (pa_cons (pv 0) pa_nil)))
      (pss_one (ps_if (pt_cmpR op_gt (pe_callB call_len_seq (by rfl) m1 PySem.boot_len (pa_cons (pv 0) pa_nil)) (pe_glob (v := .int 12) (by rfl) n1 ⟨_, rfl⟩) (nomark _)) pss_never pss_nil)), ?_⟩
    refine ⟨.ref a, rfl, a, ns, rfl, hA, hw, fun H1 e1 => ⟨.ref a, rfl, a, _, rfl, .inr (Same.tup e1 hA), ?_⟩⟩
    refine ⟨_, 12, rfl, rfl, _, rfl, ?_⟩
    rw [decide_eq_false (by rw [List.length_map]; omega)]
    exact iteF (q H1 e1)
def spStr (K : PySem.W.Frag) : Sp := fun vs H Q _ => ∃ (a : Addr) (ns : List Int) (d : Int), vs = [.ref a, .int d] ∧ SqT K H a (ns.map V.int) ∧ IsWork ns ∧ ns.length ≤ 12 ∧ 1 ≤ d ∧ d ≤ 12 ∧ ∀ H', Same H H' → Q .non H'
theorem ok_req_stretch {f f1 f2 : Addr} {fd fd1 fd2 : FuncData} {k : Nat} (F : Fun K "_require_stretch" "_require_stretch" s_require_stretch f fd) (nD : ∃ t, mg "MOST_DISTANCE" = some (.int 12 t))
    (G1 : FnOk P w K mg base CX0 k f1 fd1 ["work"] (spShort K)) (kp1 : PySem.W.keepIn K (.ref f1) = true) (b1 : Binds K fd1 ["work"] []) (g1 : mg "_require_short" = some (.ref f1))
    (G2 : FnOk P w K mg base CX0 k f2 fd2 ["thing", "least", "most"] (spBetA K)) (kp2 : PySem.W.keepIn K (.ref f2) = true) (b2 : Binds K fd2 ["thing", "least", "most"] []) (g2 : mg "is_between" = some (.ref f2)) :
    FnOk P w K mg base CX0 (k + 1) f fd ["work", "distance"] (spStr K) := by
  obtain ⟨t1, n1⟩ := nD
  refine F.ok sc_require_stretch (fun vs H Q E h => ?_) (fun cdv A outer s H vs Q E hr h => ?_)
  · obtain ⟨a, ns, d, rfl, _⟩ := h; rfl
  · obtain ⟨a, ns, d, rfl, hA, hw, hl, d1, d2, q⟩ := h
    refine ⟨_, pss_cons (ps_expr (pe_call G1 hr (by rfl) g1 kp1 b1 .nil pass0 (pa_cons (pv 0) pa_nil)))
      (pss_one (ps_if (pt_not (pt_val (pe_call G2 hr (by rfl) g2 kp2 b2 .nil pass0 (pa_cons (pv 1) (pa_cons pe_int (pa_cons (pe_glob (v := .int 12) (by rfl) n1 ⟨_, rfl⟩) pa_nil)))))) pss_never pss_nil)), ?_⟩
    refine ⟨.ref a, rfl, a, ns, rfl, hA, hw, hl, fun H1 e1 => ?_⟩
    refine ⟨.int d, rfl, .int d, .int d, 1, 12, rfl, .data (.int d), _, rfl, ?_⟩
    have : betD (.int d) 1 12 = true := by show (decide (1 ≤ d) && decide (d ≤ 12)) = true; rw [decide_eq_true d1, decide_eq_true d2]; rfl
    rw [this]
    exact iteF (q H1 e1)
end
end Sg
set_option Elab.async false
set_option linter.all false
set_option maxRecDepth 100000
set_option maxHeartbeats 4000000
namespace Sg
open PySem PySem.Spec PyProof.Rows L2 StX
def cnts (ns : List Int) : List Int := (List.range 10).map fun k => ((ns.count ((k : Nat) : Int) : Nat) : Int)
def Mv (ns : List Int) (m : Int) : Prop := m ∈ cnts ns ∧ ∀ y ∈ cnts ns, y ≤ m
theorem Mv.uniq {ns : List Int} {m m' : Int} (h : Mv ns m) (h' : Mv ns m') : m = m' := by
  have h1 := h.2 _ h'.1
  have h2 := h'.2 _ h.1
  omega
theorem cnts_at {ns : List Int} {i : Nat} : (List.range i).map (fun k => ((ns.count ((k : Nat) : Int) : Nat) : Int)) ++ [((ns.count (0 + (i : Nat) : Int) : Nat) : Int)] = (List.range (i + 1)).map (fun k => ((ns.count ((k : Nat) : Int) : Nat) : Int)) := by
  rw [List.range_succ, List.map_append, Int.zero_add]; rfl
/-- most visits, as a natural number -/
theorem Mv.nat {ns : List Int} {m : Int} (h : Mv ns m) : ∃ n : Nat, m = (n : Int) ∧ n ≤ ns.length := by
  obtain ⟨k, _, e⟩ := List.mem_map.mp h.1
  exact ⟨_, e.symm, List.count_le_length⟩
theorem Mv.visit {ns : List Int} (hw : IsWork ns) {m : Int} (h : Mv ns m) {x : Int} (hx : x ∈ ns) (nx : x ≠ -1) : (ns.count x : Int) ≤ m := by
  have i1 := hw.items x hx
  refine h.2 _ (List.mem_map.mpr ⟨x.toNat, List.mem_range.mpr (by omega), ?_⟩)
  rw [show ((x.toNat : Nat) : Int) = x from by omega]
theorem Mv.pos {ns : List Int} (hw : IsWork ns) {m : Int} (h : Mv ns m) : 1 ≤ m := by
  have hp := hw.pos
  have hz : ns[0]? = some ns[0] := List.getElem?_eq_getElem hp
  have hx : ns[0] ∈ ns := List.mem_of_getElem? hz
  have := h.visit hw hx (hw.head _ hz)
  have c := List.count_pos_iff.mpr hx
  omega
/-- a distance that is no less than the most visits has its waits -/
theorem Mv.best {ns : List Int} (hw : IsWork ns) {m : Int} (h : Mv ns m) {d : Nat} (hd : m ≤ (d : Int)) : Best ns d (lw ns d) :=
  lw_best (best_exists (has_way hw (by have := h.pos hw; omega) fun x hx nx => by have := h.visit hw hx nx; omega))
theorem Mv.const {ns : List Int} (hw : IsWork ns) {m : Int} (h : Mv ns m) {c : Nat} (hc : lcd ns c) : m ≤ (c : Int) := by
  obtain ⟨k, _, e⟩ := List.mem_map.mp h.1
  obtain ⟨c1, c2, c3, c4⟩ := hc
  have := const_visits c1 c3 (x := ((k : Nat) : Int)) (by omega)
  omega
section
variable {P : Program} {w : World} {K : PySem.W.Frag} {mg : Str → Option Value} {base : Heap}
/-! ### most_visits -/
def spMostV (K : PySem.W.Frag) : Sp := fun vs H Q _ => ∃ (a : Addr) (ns : List Int), vs = [.ref a] ∧ FrzT H a (ns.map V.int) ∧ IsWork ns ∧ ∀ H' m, Same H H' → Mv ns m → Q (.int m) H'
theorem ok_most_visits {f f1 : Addr} {fd fd1 : FuncData} {k : Nat} (F : Fun K "most_visits" "most_visits" s_most_visits f fd) (N : Nums mg)
    (G1 : FnOk P w K mg base CX0 k f1 fd1 ["thing"] (spReq K)) (kp1 : PySem.W.keepIn K (.ref f1) = true) (b1 : Binds K fd1 ["thing"] []) (g1 : mg "require_work" = some (.ref f1))
    (m1 : mg "max" = none) (m2 : mg "range" = none) :
    FnOk P w K mg base CX0 (k + 1) f fd ["work"] (spMostV K) := by
  obtain ⟨t2, n2⟩ := N.stations
  refine F.ok sc_most_visits (fun vs H Q E h => ?_) (fun cdv A outer s H vs Q E hr h => ?_)
  · obtain ⟨a, ns, rfl, _⟩ := h; rfl
  · obtain ⟨a, ns, rfl, hF, hw, q⟩ := h
    refine ⟨_, pss_cons (ps_expr (pe_call G1 hr (by rfl) g1 kp1 b1 .nil pass0 (pa_cons (pv 0) pa_nil)))
      (pss_one (ps_ret (pe_callB (cr_max rfl) (by rfl) m1 (by decide +kernel) (pa_cons
          (pe_lc (own := [("station", 1)]) (g := gName 1) (tt := tYes) rfl sc_most_visits.nd (pi_range1 (by rfl) m2 (pa_cons (pe_glob (v := .int 10) (by rfl) n2 ⟨_, rfl⟩) pa_nil)) (blkOk_by (N := ["work", "station"]) (sc := defScope s_most_visits) (by decide +kernel))
            (fun _ _ _ _ _ => pg_name (i := 1) sc_most_visits.nd rfl (Or.inl rfl)) (fun _ _ _ _ _ => pts_nil)
            (fun _ _ _ _ _ => pe_bmF PySem.F.plainAttrs_tuple PySem.F.slot_tuple_count PySem.F.type_tuple_count (mt_tcountK (K := K) rfl) (pv 0) (pa_cons (pv 1) pa_nil))) pa_nil)))), ?_⟩
    refine ⟨.ref a, rfl, a, ns, rfl, hF.sq, hw, fun H' sm => ?_⟩
    have most := hw.most
    refine ⟨10, rfl, (by decide), (by decide), fun D hD => ?_⟩
    refine lc_range (lo := 0) (n := 10) (fun i H'' => Same H' H'' ∧ H'' D = some (.lst (((List.range i).map (fun k => ((ns.count ((k : Nat) : Int) : Nat) : Int))).map V.int))) ⟨same_new hD, upd_same⟩ (fun i H2 hi h => ?_) (fun H2 h => ?_)
    · obtain ⟨sm2, hDl⟩ := h
      have hF2 := (hF.same sm).same sm2
      refine ⟨rfl, .ref a, rfl, ⟨a, _, rfl, hF2⟩, .int (0 + (i : Nat)), rfl, a, ns, _, rfl, rfl, hF2.sq, ?_⟩
      refine ⟨_, hDl, ?_, fun b o e => ?_, ?_⟩
      · rw [List.length_map, List.length_map, List.length_range]
        exact small1000 (by omega)
      · rw [upd_ne (ne_of_none e hD)]
        exact sm2 _ _ e
      · rw [upd_same, ← cnts_at, List.map_append]; rfl
    · obtain ⟨sm2, hDl⟩ := h
      refine ⟨D, cnts ns, rfl, .of hDl, by unfold cnts; rw [List.length_map, List.length_range]; decide, fun m h1 h2 => q _ m (sm.trans sm2) ⟨h1, h2⟩⟩
/-! ### stretch -/
def spStretch (K : PySem.W.Frag) : Sp := fun vs H Q _ => ∃ (a : Addr) (ns : List Int) (d : Nat), vs = [.ref a, .int (d : Nat)] ∧ SqT K H a (ns.map V.int) ∧ IsWork ns ∧ ns.length ≤ 8 ∧ (∃ N : List Int, N.length ≤ 3 ∧ ∀ x ∈ ns, x = -1 ∨ x ∈ N) ∧ 1 ≤ d ∧ d ≤ 12 ∧ Best ns d (lw ns d) ∧
  ∀ H' t, Same H H' → SqT K H' t ((wI (lw ns d)).map V.int) → Q (.ref t) H'
theorem ok_stretch {f f1 f2 : Addr} {fd fd1 fd2 : FuncData} {k : Nat} (F : Fun K "stretch" "stretch" s_stretch f fd)
    (G1 : FnOk P w K mg base CX0 k f1 fd1 ["work", "distance"] (spStr K)) (kp1 : PySem.W.keepIn K (.ref f1) = true) (b1 : Binds K fd1 ["work", "distance"] []) (g1 : mg "_require_stretch" = some (.ref f1))
    (G2 : FnOk P w K mg base CX0 k f2 fd2 ["work", "distance"] (spLeast K)) (kp2 : PySem.W.keepIn K (.ref f2) = true) (b2 : Binds K fd2 ["work", "distance"] []) (g2 : mg "_least_waits" = some (.ref f2)) :
    FnOk P w K mg base CX0 (k + 1) f fd ["work", "distance"] (spStretch K) := by
  refine F.ok sc_stretch (fun vs H Q E h => ?_) (fun cdv A outer s H vs Q E hr h => ?_)
  · obtain ⟨a, ns, d, rfl, _⟩ := h; rfl
  · obtain ⟨a, ns, d, rfl, hA, hw, hl, hN, d1, d2, B, q⟩ := h
    refine ⟨_, pss_cons (ps_expr (pe_call G1 hr (by rfl) g1 kp1 b1 .nil pass0 (pa_cons (pv 0) (pa_cons (pv 1) pa_nil))))
      (pss_one (ps_ret (pe_call G2 hr (by rfl) g2 kp2 b2 .nil pass0 (pa_cons (pv 0) (pa_cons (pv 1) pa_nil))))), ?_⟩
    refine ⟨.ref a, rfl, .int (d : Nat), rfl, a, ns, (d : Nat), rfl, hA, hw, by omega, by omega, by omega, fun H1 e1 => ?_⟩
    refine ⟨.ref a, rfl, .int (d : Nat), rfl, a, ns, d, _, (keysS ns d).length, some (wI (lw ns d)), rfl, Same.tup e1 hA, hw.pos, by omega, d1, by omega, keysS_eight hw.pos hl d2 hN, least_runS hw.pos d1 (o := some (lw ns d)) (fun ws e => by cases e; exact B) (fun z => nomatch z), fun ws e H2 t e2 ht => ?_, fun z => nomatch z⟩
    cases e
    exact q H2 t (e1.trans e2) ht
/-! ### shows_stretch, of waits -/
def spShows (K : PySem.W.Frag) : Sp := fun vs H Q _ => ∃ (a b : Addr) (x : Int) (rs : List Int) (ws : List Int) (d : Nat), vs = [.ref a, .int (d : Nat), .ref b] ∧ SqT K H a ((x :: rs).map V.int) ∧ SqT K H b (ws.map V.int) ∧ Waits ws rs ∧ IsWork (x :: rs) ∧ (x :: rs).length ≤ 12 ∧ 1 ≤ d ∧ d ≤ 12 ∧
  (prs (putN x ws rs ws.length) (d : Nat) (putN x ws rs ws.length).length).length < 64 ∧ ∀ H', Same H H' → Q (.bl (constB (putN x ws rs ws.length) (d : Nat))) H'
theorem ok_shows {f f1 f2 f3 f4 : Addr} {fd fd1 fd2 fd3 fd4 : FuncData} {k : Nat} (F : Fun K "shows_stretch" "shows_stretch" s_shows_stretch f fd)
    (G1 : FnOk P w K mg base CX0 k f1 fd1 ["work", "distance"] (spStr K)) (kp1 : PySem.W.keepIn K (.ref f1) = true) (b1 : Binds K fd1 ["work", "distance"] []) (g1 : mg "_require_stretch" = some (.ref f1))
    (G2 : FnOk P w K mg base CX0 k f2 fd2 ["work", "thing"] (spIsWaits K)) (kp2 : PySem.W.keepIn K (.ref f2) = true) (b2 : Binds K fd2 ["work", "thing"] []) (g2 : mg "_is_waits" = some (.ref f2))
    (G3 : FnOk P w K mg base CX0 k f3 fd3 ["work", "waits"] (spPutIn K)) (kp3 : PySem.W.keepIn K (.ref f3) = true) (b3 : Binds K fd3 ["work", "waits"] []) (g3 : mg "_put_in" = some (.ref f3))
    (G4 : FnOk P w K mg base CX0 k f4 fd4 ["items", "distance"] (spIsConst K)) (kp4 : PySem.W.keepIn K (.ref f4) = true) (b4 : Binds K fd4 ["items", "distance"] []) (g4 : mg "is_constant" = some (.ref f4)) :
    FnOk P w K mg base CX0 (k + 1) f fd ["work", "distance", "thing"] (spShows K) := by
  refine F.ok sc_shows_stretch (fun vs H Q E h => ?_) (fun cdv A outer s H vs Q E hr h => ?_)
  · obtain ⟨a, b, x, rs, ws, d, rfl, _⟩ := h; rfl
  · obtain ⟨a, b, x, rs, ws, d, rfl, hA, hB, hW, hw, hl, d1, d2, few, q⟩ := h
    refine ⟨_, pss_cons (ps_expr (pe_call G1 hr (by rfl) g1 kp1 b1 .nil pass0 (pa_cons (pv 0) (pa_cons (pv 1) pa_nil))))
      (pss_one (ps_ret (pe_and (pe_call G2 hr (by rfl) g2 kp2 b2 .nil pass0 (pa_cons (pv 0) (pa_cons (pv 2) pa_nil)))
        (pe_one (pe_call G4 hr (by rfl) g4 kp4 b4 .nil pass0 (pa_cons (pe_call G3 hr (by rfl) g3 kp3 b3 .nil pass0 (pa_cons (pv 0) (pa_cons (pv 2) pa_nil))) (pa_cons (pv 1) pa_nil))))))), ?_⟩
    have pl := put_len hW x ws.length
    have wl := hW.most
    refine ⟨.ref a, rfl, .int (d : Nat), rfl, a, _, (d : Nat), rfl, hA, hw, hl, by omega, by omega, fun H1 e1 => ?_⟩
    refine ⟨.ref a, rfl, .ref b, rfl, a, b, x, ws, rs, rfl, Same.tup e1 hA, Same.tup e1 hB, hW, fun H2 e2 => ?_⟩
    have e12 := e1.trans e2
    refine ⟨true, rfl, iteT ⟨.ref a, rfl, .ref b, rfl, a, b, x, ws, rs, rfl, Same.tup e12 hA, Same.tup e12 hB, hW, fun H3 t e3 _ ht => ?_⟩⟩
    exact ⟨.int (d : Nat), rfl, t, _, (d : Nat), rfl, ht.sq, by omega, few, by omega, fun H4 e4 => q H4 (e12.trans (e3.trans e4))⟩
/-! ### trade -/
def spTrade (K : PySem.W.Frag) : Sp := fun vs H Q _ => ∃ (a : Addr) (ns : List Int), vs = [.ref a] ∧ FrzT H a (ns.map V.int) ∧ IsWork ns ∧ ns.length ≤ 8 ∧ (∃ N : List Int, N.length ≤ 3 ∧ ∀ x ∈ ns, x = -1 ∨ x ∈ N) ∧
  ∀ H' t (m c : Nat), Same H H' → Mv ns (m : Nat) → lcd ns c → Tp K H' (.ref t) (.tuple (pairsT ns m (c + 1 - m))) → Q (.ref t) H'
theorem ok_trade {f f1 f2 f3 f4 : Addr} {fd fd1 fd2 fd3 fd4 : FuncData} {k : Nat} (F : Fun K "trade" "trade" s_trade f fd)
    (G1 : FnOk P w K mg base CX0 k f1 fd1 ["work"] (spShort K)) (kp1 : PySem.W.keepIn K (.ref f1) = true) (b1 : Binds K fd1 ["work"] []) (g1 : mg "_require_short" = some (.ref f1))
    (G2 : FnOk P w K mg base CX0 k f2 fd2 ["work"] (spMostV K)) (kp2 : PySem.W.keepIn K (.ref f2) = true) (b2 : Binds K fd2 ["work"] []) (g2 : mg "most_visits" = some (.ref f2))
    (G3 : FnOk P w K mg base CX0 k f3 fd3 ["work"] (spConstants K)) (kp3 : PySem.W.keepIn K (.ref f3) = true) (b3 : Binds K fd3 ["work"] []) (g3 : mg "constants" = some (.ref f3))
    (G4 : FnOk P w K mg base CX0 k f4 fd4 ["work", "distance"] (spLeast K)) (kp4 : PySem.W.keepIn K (.ref f4) = true) (b4 : Binds K fd4 ["work", "distance"] []) (g4 : mg "_least_waits" = some (.ref f4))
    (m1 : mg "range" = none) (m2 : mg "tuple" = none) (m3 : mg "sum" = none) :
    FnOk P w K mg base CX0 (k + 1) f fd ["work"] (spTrade K) := by
  refine F.ok sc_trade (fun vs H Q E h => ?_) (fun cdv A outer s H vs Q E hr h => ?_)
  · obtain ⟨a, ns, rfl, _⟩ := h; rfl
  · obtain ⟨a, ns, rfl, hF, hw, hl, hN, q⟩ := h
    refine ⟨_, pss_cons (ps_expr (pe_call G1 hr (by rfl) g1 kp1 b1 .nil pass0 (pa_cons (pv 0) pa_nil)))
      (pss_cons (ps_set (i := 1) sc_trade.nd rfl (.inl rfl) (pe_callTy cr_range2 (by rfl) m1 (by decide +kernel) (pa_cons (pe_call G2 hr (by rfl) g2 kp2 b2 .nil pass0 (pa_cons (pv 0) pa_nil))
          (pa_cons (pe_op op_add (pe_ix ix_tup (pe_call G3 hr (by rfl) g3 kp3 b3 .nil pass0 (pa_cons (pv 0) pa_nil)) pe_int (fun _ _ => rfl)) pe_int) pa_nil))))
      (pss_one (ps_ret (pe_callTy (call_tuple_ofK (K := K) rfl) (by rfl) m2 (by decide +kernel) (pa_cons
        (pe_lc (own := [("distance", 2)]) (g := gName 2) (tt := tYes) rfl sc_trade.nd (pi_rngO (pv 1)) (blkOk_by (N := ["work", "distances", "distance"]) (sc := defScope s_trade) (by decide +kernel))
          (fun _ _ _ _ _ => pg_name (i := 2) sc_trade.nd rfl (Or.inl rfl)) (fun _ _ _ _ _ => pts_nil)
          (fun _ _ _ _ _ => pe_tup (pa_cons (pv 2) (pa_cons (pe_callB (cr_sumTK (K := K) rfl rfl) (by rfl) m3 (by decide +kernel) (pa_cons (pe_call G4 hr (by rfl) g4 kp4 b4 .nil pass0 (pa_cons (pv 0) (pa_cons (pv 2) pa_nil))) pa_nil)) pa_nil)))) pa_nil))))), ?_⟩
    refine ⟨.ref a, rfl, a, ns, rfl, hF.sq, hw, by omega, fun H1 e1 => ?_⟩
    refine ⟨.ref a, rfl, a, ns, rfl, hF.same e1, hw, fun H2 mi e2 hm => ?_⟩
    have e12 := e1.trans e2
    refine ⟨.ref a, rfl, a, ns, rfl, (hF.same e12).sq, hw, fun H3 t3 e3 _ ht3 => ?_⟩
    obtain ⟨c, hc, hc0⟩ := lcd_first hw.pos
    obtain ⟨m, rfl, hm2⟩ := hm.nat
    have hcm := hm.const hw hc
    have hm1 := hm.pos hw
    obtain ⟨c1, c2, _, _⟩ := id hc
    refine ⟨t3, _, 0, .int (c : Nat), rfl, rfl, .of ht3, atI_nat (j := 0) (by rw [List.getElem?_map, hc0]; rfl), (c : Nat), 1, rfl, rfl, _, _, rfl, fun R nR => ?_⟩
    have e4 := same_new (o := .rng (m : Nat) ((c : Nat) + 1)) nR
    have hR4 : (upd H3 R (.rng (m : Nat) ((c : Nat) + 1))) R = some (.rng (m : Nat) ((c : Nat) + 1)) := upd_same
    have e14 := e12.trans (e3.trans e4)
    generalize upd H3 R (.rng (m : Nat) ((c : Nat) + 1)) = H4 at e4 hR4 e14 ⊢
    refine ⟨.ref R, rfl, R, (m : Nat), (c : Nat) + 1, rfl, hR4, by omega, by omega, by omega, by omega, fun D nD => ?_⟩
    have en : (((c : Nat) : Int) + 1 - ((m : Nat) : Int)).toNat = c + 1 - m := by omega
    rw [en]
    have lds : (pairsT ns m (c + 1 - m)).length = c + 1 - m := by unfold pairsT; rw [List.length_map, List.length_range]
    refine lc_range (lo := (m : Nat)) (n := c + 1 - m) (fun i H' => Grow K H4 D (pairsT ns m (c + 1 - m)) i H') (.zero nD) (fun i H' hi h => ?_) (fun H' h => ?_)
    · have eH' := e14.trans h.1
      refine ⟨rfl, .int (((m : Nat) : Int) + (i : Nat)), rfl, .ref a, rfl, .int (((m : Nat) : Int) + (i : Nat)), rfl, ?_⟩
      have B := hm.best hw (d := m + i) (by omega)
      refine ⟨a, ns, m + i, _, (keysS ns (m + i)).length, some (wI (lw ns (m + i))), rfl, (hF.same eH').sq, hw.pos, by omega, by omega, by omega, keysS_eight hw.pos hl (by omega) hN, least_runS hw.pos (by omega) (o := some (lw ns (m + i))) (fun ws e => by cases e; exact B) (fun z => nomatch z), fun ws ew H5 t5 e5 ht5 => ?_, fun z => nomatch z⟩
      cases ew
      refine ⟨t5, wI (lw ns (m + i)), rfl, ht5, by show 2 ≤ sizeLine; rw [sizeLine_eq]; decide, fun z nz => ?_⟩
      have ez := same_new (o := .tup [V.int (((m : Nat) : Int) + (i : Nat)), .int (wI (lw ns (m + i))).sum]) nz
      have hz : (upd H5 z (.tup [V.int (((m : Nat) : Int) + (i : Nat)), .int (wI (lw ns (m + i))).sum])) z = some (.tup [V.int (((m : Nat) : Int) + (i : Nat)), .int (wI (lw ns (m + i))).sum]) := upd_same
      obtain ⟨acc, h1, h2, h3⟩ := Grow.next (d := tD [((m + i : Nat) : Int), (wI (lw ns (m + i))).sum]) (v := .ref z) nD (by rw [lds]; omega) h (e5.trans ez) (by unfold pairsT; rw [List.getElem?_map, List.getElem?_range hi]; rfl) (Tp.ofInts (ns := [((m + i : Nat) : Int), (wI (lw ns (m + i))).sum]) (.of (by rw [hz]; show _ = some (HO.tup [V.int ((m + i : Nat) : Int), V.int (wI (lw ns (m + i))).sum]); rw [show (((m + i : Nat) : Nat) : Int) = ((m : Nat) : Int) + ((i : Nat) : Int) from by omega])))
      exact ⟨acc, h1, h2, h3⟩
    · obtain ⟨e5, acc, h1, h2⟩ := h.done lds.symm
      refine ⟨D, acc, rfl, .inl ⟨.of h1, fun t nt => ?_⟩⟩
      exact q _ t m c (e14.trans (e5.trans (same_new nt))) hm hc (Tp.new nt h2)
end
end Sg
set_option Elab.async false
set_option linter.all false
set_option maxRecDepth 100000
set_option maxHeartbeats 4000000
namespace Sg
/-! ## where the items of a work with waits stand -/
def placesV (ns : List Int) (d : Int) (v : List Nat) : Nat → List (Int × Int)
  | 0 => []
  | i + 1 => placesV ns d v i ++ prOf d (ns.getD i 0) (i + (v.take i).sum)
theorem prOf_len (d x : Int) (t : Nat) : (prOf d x t).length ≤ 1 := by
  unfold prOf
  split
  · exact Nat.zero_le _
  · exact Nat.le_refl _
theorem placesV_len (ns : List Int) (d : Int) (v : List Nat) : ∀ i, (placesV ns d v i).length ≤ i
  | 0 => Nat.le_refl _
  | i + 1 => by
    have := placesV_len ns d v i
    have := prOf_len d (ns.getD i 0) (i + (v.take i).sum)
    show (placesV ns d v i ++ _).length ≤ _
    rw [List.length_append]; omega
theorem placesV_mono {ns : List Int} {d : Int} {v : List Nat} {i j : Nat} (h : i ≤ j) (nd : (placesV ns d v j).Nodup) : (placesV ns d v i).Nodup := by
  obtain ⟨m, rfl⟩ : ∃ m, j = i + m := ⟨j - i, by omega⟩
  induction m with
  | zero => exact nd
  | succ m ih => exact ih (by omega) (nd.sublist (List.sublist_append_left _ _))
theorem prs_pre (A B : List Int) (d : Int) : ∀ i, i ≤ A.length → prs (A ++ B) d i = prs A d i
  | 0, _ => rfl
  | i + 1, h => by
    have ih := prs_pre A B d i (by omega)
    have hz : A[i]? = some A[i] := List.getElem?_eq_getElem (by omega)
    rw [prs_succ hz, prs_succ (show (A ++ B)[i]? = some A[i] by rw [List.getElem?_append_left (by omega)]; exact hz), ih]
theorem prs_one (A : List Int) (y d : Int) : prs (A ++ [y]) d (A.length + 1) = prs A d A.length ++ prOf d y A.length := by
  rw [prs_succ (show (A ++ [y])[A.length]? = some y by rw [List.getElem?_append_right (Nat.le_refl _), Nat.sub_self]; rfl), prs_pre _ _ _ _ (Nat.le_refl _)]
theorem prs_gap (A : List Int) (d : Int) : ∀ m, prs (A ++ List.replicate m (-1)) d (A.length + m) = prs A d A.length
  | 0 => by rw [List.replicate_zero, List.append_nil]; rfl
  | m + 1 => by
    rw [List.replicate_succ', ← List.append_assoc, show A.length + (m + 1) = (A ++ List.replicate m (-1)).length + 1 from by rw [List.length_append, List.length_replicate]; omega, prs_one, List.length_append, List.length_replicate, prs_gap A d m]
    show _ ++ prOf d (-1) _ = _
    unfold prOf
    rw [if_pos rfl, List.append_nil]
theorem wI_at (v : List Nat) (i : Nat) : (wI v).getD i 0 = ((v.getD i 0 : Nat) : Int) := by
  unfold wI
  rw [List.getD_eq_getElem?_getD, List.getD_eq_getElem?_getD, List.getElem?_map]
  cases v[i]? <;> rfl
theorem take_sum {v : List Nat} {i : Nat} (h : i < v.length) : (v.take (i + 1)).sum = (v.take i).sum + v.getD i 0 := by
  rw [List.take_add_one, List.sum_append, List.getD_eq_getElem?_getD, List.getElem?_eq_getElem h]
  rfl
/-- the stretched work's places are the items' places -/
theorem put_places (x : Int) (rs : List Int) (v : List Nat) (d : Int) : ∀ i, i ≤ v.length → (putN x (wI v) rs i).length = i + (v.take i).sum + 1 ∧ prs (putN x (wI v) rs i) d (putN x (wI v) rs i).length = placesV (x :: rs) d v (i + 1)
  | 0, _ => by
    refine ⟨rfl, ?_⟩
    have := prs_one [] x d
    exact this
  | i + 1, h => by
    obtain ⟨h1, h2⟩ := put_places x rs v d i (by omega)
    have eg : gapL ((wI v).getD i 0) = List.replicate (v.getD i 0) (-1) := by rw [wI_at]; rfl
    have l2 : (putN x (wI v) rs i ++ gapL ((wI v).getD i 0)).length = i + 1 + (v.take (i + 1)).sum := by
      rw [eg, List.length_append, List.length_replicate, h1, take_sum (by omega)]; omega
    refine ⟨?_, ?_⟩
    · rw [putN_succ, List.length_append, l2]; rfl
    · rw [putN_succ, List.length_append]
      show prs _ d (_ + 1) = _
      rw [prs_one, l2]
      congr 1
      · rw [← h2, ← l2, eg, List.length_append, List.length_replicate]
        exact prs_gap _ _ _
/-- when waits are feasible, by places -/
theorem go_places {ns : List Int} {d : Nat} {v : List Nat} (hd : 1 ≤ d) (hv : v.length + 1 = ns.length) : ∀ (n at_ : Nat) (tk : List Plc), 1 ≤ at_ → at_ + n = ns.length → (∀ p, p ∈ tk ↔ p ∈ placesV ns (d : Int) v at_) → (placesV ns (d : Int) v at_).Nodup →
    ((goL ns d at_ (v.take (at_ - 1)).sum tk (v.drop (at_ - 1))).isSome = true ↔ (placesV ns (d : Int) v ns.length).Nodup)
  | 0, at_, tk, h1, hl, _, nd => by
    rw [List.drop_of_length_le (by omega), ← hl]
    exact ⟨fun _ => nd, fun _ => rfl⟩
  | n + 1, at_, tk, h1, hl, hp, nd => by
    obtain ⟨i, rfl⟩ : ∃ i, at_ = i + 1 := ⟨at_ - 1, by omega⟩
    rw [Nat.add_sub_cancel]
    have hi : i < v.length := by omega
    rw [List.drop_eq_getElem_cons hi]
    have ew : v.getD i 0 = v[i] := by rw [List.getD_eq_getElem?_getD, List.getElem?_eq_getElem hi]; rfl
    have es : (v.take i).sum + v[i] = (v.take (i + 1)).sum := by rw [take_sum hi, ew]
    have esp : spotAt ns d (i + 1) (v.take i).sum v[i] = (ns.getD (i + 1) 0, ((i + 1 + (v.take (i + 1)).sum : Nat) : Int) % (d : Int)) := by
      unfold spotAt
      rw [← es, ← Nat.add_assoc]
    show (match lawOne ns d (i + 1) (v.take i).sum tk v[i] with
      | none => none
      | some t => goL ns d (i + 1 + 1) ((v.take i).sum + v[i]) t (v.drop (i + 1))).isSome = true ↔ _
    have epl : placesV ns (d : Int) v (i + 1 + 1) = placesV ns (d : Int) v (i + 1) ++ prOf (d : Int) (ns.getD (i + 1) 0) (i + 1 + (v.take (i + 1)).sum) := rfl
    unfold lawOne
    by_cases hm : ns.getD (i + 1) 0 = -1
    · rw [if_pos hm]
      have e2 : prOf (d : Int) (ns.getD (i + 1) 0) (i + 1 + (v.take (i + 1)).sum) = [] := if_pos hm
      rw [e2, List.append_nil] at epl
      have := go_places hd hv n (i + 1 + 1) tk (by omega) (by omega) (by rw [epl]; exact hp) (by rw [epl]; exact nd)
      rw [Nat.add_sub_cancel] at this
      rw [es]
      exact this
    · rw [if_neg hm]
      have e2 : prOf (d : Int) (ns.getD (i + 1) 0) (i + 1 + (v.take (i + 1)).sum) = [spotAt ns d (i + 1) (v.take i).sum v[i]] := by
        rw [esp]; exact if_neg hm
      rw [e2] at epl
      by_cases hin : spotAt ns d (i + 1) (v.take i).sum v[i] ∈ tk
      · rw [if_pos hin]
        refine Iff.intro (fun z => nomatch (show (none : Option (List Plc)).isSome = true from z)) fun z => ?_
        have z2 := placesV_mono (i := i + 1 + 1) (by omega) z
        rw [epl] at z2
        exact absurd rfl ((List.nodup_append.mp z2).2.2 _ ((hp _).mp hin) _ (List.mem_singleton.mpr rfl))
      · rw [if_neg hin]
        have nd2 : (placesV ns (d : Int) v (i + 1 + 1)).Nodup := by
          rw [epl]
          refine List.nodup_append.mpr ⟨nd, List.nodup_cons.mpr ⟨List.not_mem_nil, List.nodup_nil⟩, fun a ha b hb z => ?_⟩
          rw [List.mem_singleton.mp hb] at z
          exact hin ((hp _).mpr (z ▸ ha))
        have := go_places hd hv n (i + 1 + 1) (sortP (tk ++ [spotAt ns d (i + 1) (v.take i).sum v[i]])) (by omega) (by omega) (fun p => by
          rw [epl, (sortP_perm _).mem_iff, List.mem_append, List.mem_append, hp p]) nd2
        rw [Nat.add_sub_cancel] at this
        rw [es]
        exact this
theorem work_head {ns : List Int} (hw : IsWork ns) : ns.getD 0 0 ≠ -1 := by
  have hp := hw.pos
  have : ns[0]? = some ns[0] := List.getElem?_eq_getElem (by omega)
  rw [List.getD_eq_getElem?_getD, this]
  exact hw.head _ this
theorem fz_iff {ns : List Int} {d : Nat} {v : List Nat} (hw : IsWork ns) (hd : 1 ≤ d) (hv : v.length + 1 = ns.length) : (goW ns d 1 (T0 ns) v).isSome = true ↔ (placesV ns (d : Int) v ns.length).Nodup := by
  have n0 := work_head hw
  rw [go_iff hd v 1 0 _ _ (rel_first n0 hd) (by omega)]
  have e1 : placesV ns (d : Int) v 1 = [(ns.getD 0 0, 0)] := by
    show [] ++ prOf (d : Int) (ns.getD 0 0) (0 + (v.take 0).sum) = _
    unfold prOf
    rw [if_neg n0]
    show [(ns.getD 0 0, ((0 : Nat) : Int) % (d : Int))] = _
    rw [Int.emod_eq_of_lt (by omega) (by omega)]; rfl
  have := go_places hd hv (ns.length - 1) 1 (T0 ns) (by omega) (by have := hw.pos; omega) (fun p => by rw [e1]) (by rw [e1]; exact List.nodup_cons.mpr ⟨List.not_mem_nil, List.nodup_nil⟩)
  exact this
/-- stretched by feasible waits, a work has the distance -/
theorem fz_const {x : Int} {rs : List Int} {d : Nat} {v : List Nat} (hw : IsWork (x :: rs)) (hd : 1 ≤ d) (h : Fz (x :: rs) d v) : constB (putN x (wI v) rs (wI v).length) (d : Int) = true := by
  have hv := h.len
  have g := (fz_iff hw hd hv).mp h.go
  unfold constB
  refine decide_eq_true ?_
  rw [wI_len, (put_places x rs v (d : Int) v.length (Nat.le_refl _)).2, hv]
  exact g
theorem put_few {x : Int} {rs : List Int} {v : List Nat} (d : Int) : (prs (putN x (wI v) rs (wI v).length) d (putN x (wI v) rs (wI v).length).length).length ≤ v.length + 1 := by
  rw [wI_len, (put_places x rs v d v.length (Nat.le_refl _)).2]
  exact placesV_len _ _ _ _
/-- no waits at all -/
theorem zero_places (ns : List Int) (d : Int) (v : List Nat) (h : v.sum = 0) : ∀ i, i ≤ ns.length → placesV ns d v i = prs ns d i
  | 0, _ => rfl
  | i + 1, hi => by
    have hz : ns[i]? = some ns[i] := List.getElem?_eq_getElem (by omega)
    have e : ns.getD i 0 = ns[i] := by rw [List.getD_eq_getElem?_getD, hz]; rfl
    have z : (v.take i).sum = 0 := by
      have := List.take_append_drop i v
      have h2 : (v.take i).sum + (v.drop i).sum = v.sum := by rw [← List.sum_append, this]
      omega
    rw [prs_succ hz, ← zero_places ns d v h i (by omega)]
    show _ ++ prOf d (ns.getD i 0) (i + (v.take i).sum) = _
    rw [e, z]; rfl
theorem sum_zero_const {ns : List Int} {d : Nat} (hw : IsWork ns) (hd : 1 ≤ d) (B : Best ns d (lw ns d)) (h : (wI (lw ns d)).sum = 0) : constB ns (d : Int) = true := by
  have g := (fz_iff hw hd B.fz.len).mp B.fz.go
  rw [zero_places ns (d : Int) _ (by rw [wsum] at h; omega) _ (Nat.le_refl _)] at g
  exact decide_eq_true g
theorem sum_zero_iff {ns : List Int} {d : Nat} (hw : IsWork ns) (hd : 1 ≤ d) (B : Best ns d (lw ns d)) : (wI (lw ns d)).sum = 0 ↔ constB ns (d : Int) = true :=
  ⟨sum_zero_const hw hd B, const_sum hw hd⟩
/-! ### constant distances and bars -/
theorem const_apart {L : List Int} {d : Nat} (h : constB L (d : Int) = true) {i j : Nat} (hij : i < j) {x : Int} (nx : x ≠ -1) (hi : L[i]? = some x) (hj : L[j]? = some x) : (i : Int) % (d : Int) ≠ (j : Int) % (d : Int) := by
  intro e
  have nd := of_decide_eq_true h
  have hl := (List.getElem?_eq_some_iff.mp hj).1
  have h2 := prs_nodup_le (i := j + 1) (by omega) (Nat.le_refl _) nd
  rw [prs_succ hj] at h2
  have e2 : prOf (d : Int) x j = [(x, (j : Int) % (d : Int))] := if_neg nx
  rw [e2] at h2
  exact (List.nodup_append.mp h2).2.2 _ ((prs_mem (by omega)).mpr ⟨nx, i, hij, hi, e⟩) _ (List.mem_singleton.mpr rfl) rfl
theorem const_bars {L : List Int} {d : Nat} (hd : 1 ≤ d) (h : constB L (d : Int) = true) {b : Nat} (hb : b ∈ barsN L L) : b % d ≠ 0 := by
  intro e
  unfold barsN at hb
  obtain ⟨h1, h2⟩ := List.mem_filter.mp hb
  have b1 := (List.mem_range'_1.mp h1).1
  obtain ⟨j, x, g1, g2, nx⟩ := clashB_iff.mp h2
  refine const_apart h (i := j) (j := b + j) (by omega) nx g2 g1 ?_
  rw [← Int.natCast_emod, ← Int.natCast_emod, Nat.add_mod, e, Nat.zero_add, Nat.mod_mod]
/-! ### the stretched work -/
theorem put_count {x : Int} {rs : List Int} {v : List Nat} {s : Int} (ns : s ≠ -1) (hv : v.length = rs.length) : ∀ i, i ≤ v.length → (putN x (wI v) rs i).count s = ((x :: rs).take (i + 1)).count s
  | 0, _ => rfl
  | i + 1, h => by
    rw [putN_succ, List.count_append, List.count_append, put_count ns hv i (by omega), take_at (work := x :: rs) (at_ := i + 1) (by rw [List.length_cons]; omega), List.count_append]
    have : (gapL ((wI v).getD i 0)).count s = 0 := by
      refine List.count_eq_zero.mpr fun z => ?_
      unfold gapL at z
      exact ns (List.eq_of_mem_replicate z)
    rw [this]; rfl
theorem put_most {x : Int} {rs : List Int} {v : List Nat} (hv : v.length = rs.length) {m : Int} : Mv (putN x (wI v) rs (wI v).length) m ↔ Mv (x :: rs) m := by
  have e : cnts (putN x (wI v) rs (wI v).length) = cnts (x :: rs) := by
    unfold cnts
    refine List.map_congr_left fun k _ => ?_
    rw [wI_len, put_count (by omega) hv v.length (Nat.le_refl _), hv, List.take_of_length_le (by rw [List.length_cons]; exact Nat.le_refl _)]
  unfold Mv
  rw [e]
theorem put_work {x : Int} {rs : List Int} {v : List Nat} (hw : IsWork (x :: rs)) (hv : v.length = rs.length) (hl : (putN x (wI v) rs (wI v).length).length ≤ 60) : IsWork (putN x (wI v) rs (wI v).length) := by
  refine ⟨by unfold putN; exact Nat.succ_pos _, hl, put_items (hw.items x List.mem_cons_self) (fun y hy => hw.items y (List.mem_cons_of_mem _ hy)) _, fun y hy => ?_, fun y hy => ?_⟩
  · have : x = y := Option.some.inj hy
    exact this ▸ hw.head x rfl
  · rw [wI_len] at hy
    have key : ∀ i, i ≤ v.length → (putN x (wI v) rs i)[(putN x (wI v) rs i).length - 1]? = (x :: rs)[i]? := by
      intro i hi
      cases i with
      | zero => rfl
      | succ i =>
        rw [putN_succ, List.length_append]
        show (_ ++ [_])[_ + 1 - 1]? = _
        rw [Nat.add_sub_cancel, List.getElem?_append_right (Nat.le_refl _), Nat.sub_self, List.getElem?_cons_succ, List.getD_eq_getElem?_getD, List.getElem?_eq_getElem (show i < rs.length by omega)]; rfl
    rw [key v.length (Nat.le_refl _)] at hy
    refine hw.last y ?_
    rw [List.length_cons, Nat.add_sub_cancel, ← hv]
    exact hy
theorem constTo_has {ns : List Int} {i d : Nat} (h1 : 1 ≤ d) (h : d ≤ i) (hc : constB ns (d : Int) = true) : (d : Int) ∈ constTo ns i := by
  unfold constTo
  exact List.mem_filter.mpr ⟨List.mem_map.mpr ⟨d - 1, List.mem_range.mpr (by omega), by omega⟩, hc⟩
theorem constTo_mem {ns : List Int} {i d : Nat} : (d : Int) ∈ constTo ns i ↔ 1 ≤ d ∧ d ≤ i ∧ constB ns (d : Int) = true := by
  constructor
  · intro h
    have := constTo_items h
    unfold constTo at h
    exact ⟨by omega, by omega, (List.mem_filter.mp h).2⟩
  · rintro ⟨h1, h2, h3⟩; exact constTo_has h1 h2 h3
end Sg
set_option Elab.async false
set_option linter.all false
set_option maxRecDepth 100000
set_option maxHeartbeats 4000000
namespace Sg
open PySem PySem.Spec PyProof.Rows L2 StX
/-- what clash tells is None exactly if no two pieces meet -/
theorem due_non {K : PySem.W.Frag} {H : Hp} {ws : List (List Int)} {ps : List (Int × Nat)} {y : V} (h : Due K H (crowdD (evPlan ws ps ps.length)) y) : decide (y = V.non) = true ↔ ∀ q, ¬ Meet ws ps q := by
  have hf := due_first (ws := ws) (ps := ps)
  rcases h with ⟨h, rfl⟩ | ⟨e, es, h, t⟩
  · rcases hf with ⟨_, no⟩ | ⟨e, es, m, h2, _⟩
    · exact ⟨fun _ => no, fun _ => rfl⟩
    · rw [h] at h2; exact nomatch h2
  · rcases hf with ⟨h2, _⟩ | ⟨e2, es2, m, h2, h3, f⟩
    · rw [h] at h2; exact nomatch h2
    · rw [h] at h2
      cases h2
      rw [h3] at t
      obtain ⟨c, xs, rfl, _⟩ := t.toTup
      exact ⟨fun z => absurd (of_decide_eq_true z) (fun z => nomatch z), fun no => absurd f.meet (no m)⟩
/-! ## one work, started again and again -/
theorem noClash_one {L : List Int} {d : Nat} (hd : 1 ≤ d) (h : constB L (d : Int) = true) : noClash [L] (0 :: List.replicate (d - 1) (-1)) := by
  rintro ⟨t, ht, kd, h1, o, b, ho, hb, h2⟩
  have hl : (0 :: List.replicate (d - 1) (-1 : Int)).length = d := by rw [List.length_cons, List.length_replicate]; omega
  have zero : ∀ (i k : Nat), (0 :: List.replicate (d - 1) (-1 : Int))[i]? = some ((k : Nat) : Int) → i = 0 := by
    intro i k e
    cases i with
    | zero => rfl
    | succ i =>
      rw [List.getElem?_cons_succ] at e
      have := List.eq_of_mem_replicate (List.mem_of_getElem? e)
      omega
  have t0 := zero _ _ h1
  subst t0
  have k0 : kd = 0 := by
    have : (0 : Int) = ((kd : Nat) : Int) := Option.some.inj h1
    omega
  have o0 : o = 0 := by have : o < 1 := ho; omega
  subst k0 o0
  rw [Nat.zero_add, hl] at h2
  exact const_bars hd h hb (zero _ _ h2)
def tenP (d : Nat) : List (Int × Nat) := (List.range 10).map fun p => (((d * p : Nat) : Int), 0)
theorem tenP_at {d i : Nat} {s : Int × Nat} (h : (tenP d)[i]? = some s) : i < 10 ∧ s = (((d * i : Nat) : Int), 0) := by
  unfold tenP at h
  rw [List.getElem?_map] at h
  obtain ⟨p, hp, rfl⟩ := Option.map_eq_some_iff.mp h
  have hi : i < 10 := by
    have := (List.getElem?_eq_some_iff.mp hp).1
    rwa [List.length_range] at this
  rw [List.getElem?_range hi] at hp
  cases hp
  exact ⟨hi, rfl⟩
theorem tenP_good {d : Nat} (hd : 1 ≤ d) : GoodP 1 (tenP d) := by
  refine ⟨by unfold tenP; rw [List.length_map, List.length_range]; decide, fun s hs => ?_, fun i s hs => ?_⟩
  · obtain ⟨p, _, rfl⟩ := List.mem_map.mp hs
    exact Nat.zero_lt_one
  · obtain ⟨hi, rfl⟩ := tenP_at hs
    cases i with
    | zero => rw [leastAt_zero]; exact Int.le_refl _
    | succ i =>
      have e : (tenP d)[i]? = some (((d * i : Nat) : Int), 0) := by
        unfold tenP
        rw [List.getElem?_map, List.getElem?_range (by omega)]; rfl
      rw [leastAt_succ e]
      show ((d * i : Nat) : Int) + 1 ≤ ((d * (i + 1) : Nat) : Int)
      rw [Nat.mul_succ]; omega
theorem tenP_apart {L : List Int} {d : Nat} (hd : 1 ≤ d) (h : constB L (d : Int) = true) : ∀ q, ¬ Meet [L] (tenP d) q := by
  rintro ⟨x, y, a, b⟩ hm
  obtain ⟨s, e1, _⟩ := here_at.mp hm.one
  obtain ⟨t, e2, _⟩ := here_at.mp hm.two
  have hab : a < b := hm.asc
  obtain ⟨dd, e3, hb⟩ := (meet_bars (tenP_good hd) e1 e2 hab).mp ⟨x, y, hm⟩
  obtain ⟨_, rfl⟩ := tenP_at e1
  obtain ⟨_, rfl⟩ := tenP_at e2
  refine const_bars hd h hb ?_
  have e3 : ((d * b : Nat) : Int) - ((d * a : Nat) : Int) = (dd : Nat) := e3
  obtain ⟨c, rfl⟩ : ∃ c, b = a + c := ⟨b - a, by omega⟩
  rw [Nat.mul_add] at e3
  have : dd = d * c := by omega
  rw [this]
  exact Nat.mul_mod_right d c
theorem one_good {L : List Int} (h : IsWork L) : GoodL [L] := ⟨Nat.le_refl 1, by show 1 ≤ 3; decide, fun w hw => by rw [List.mem_singleton.mp hw]; exact h⟩
end Sg
set_option Elab.async false
set_option linter.all false
set_option maxRecDepth 100000
set_option maxHeartbeats 4000000
namespace Sg
open PySem PySem.Spec PyProof.Rows L2 StX
def cntsL (ns L : List Int) (i : Nat) : List Int := ((ns.take i).filter fun x => decide (x ≠ -1)).map fun x => (L.count x : Int)
/-- a Line of one work that stands in a name -/
def tLine (K : PySem.W.Frag) (C : Addr) (i : Nat) : TE := fun σ H Q => ∃ t L, σ[i]? = some (some (V.ref t)) ∧ SqT K H t (L.map V.int) ∧ IsWork L ∧ ∀ H' a, Same H H' → LineAt K C H' a [L] → Q (.ref a) H'
section
variable {P : Program} {w : World} {K : PySem.W.Frag} {mg : Str → Option Value} {base : Heap}
/-! ### _law_right -/
abbrev rightN : List Str := ["_law_items", "_law_distance", "_law_waits", "_law_longer", "_law_one", "_law_bar", "_law_line", "_law_plan", "_law_piece"]
def spRight (K : PySem.W.Frag) : Sp := fun vs H Q _ => ∃ (a : Addr) (ns : List Int) (m : Int) (d : Nat), vs = [.ref a, .int (d : Nat)] ∧ FrzT H a (ns.map V.int) ∧ IsWork ns ∧ ns.length ≤ 8 ∧ (∃ N : List Int, N.length ≤ 3 ∧ ∀ x ∈ ns, x = -1 ∨ x ∈ N) ∧
  Mv ns m ∧ m ≤ (d : Nat) ∧ d ≤ 12 ∧ ∀ H', Same H H' → Q (.bl true) H'
theorem ok_right {f f1 f2 f3 f4 f5 f6 f7 f8 fI C : Addr} {fd fd1 fd2 fd3 fd4 fd5 fd6 fd7 fd8 : FuncData} {k : Nat} (F : Fun K "_law_right" "_law_right" s_l_right f fd) (T : LC K mg C) (MI : Mk K C fI) (GI : FnR P w K mg base CX0 k fI (spInit K C))
    (G1 : FnOk P w K mg base CX0 (k + 1) f1 fd1 ["work", "distance"] (spStretch K)) (kp1 : PySem.W.keepIn K (.ref f1) = true) (b1 : Binds K fd1 ["work", "distance"] []) (g1 : mg "stretch" = some (.ref f1))
    (G2 : FnOk P w K mg base CX0 (k + 1) f2 fd2 ["work", "distance", "thing"] (spShows K)) (kp2 : PySem.W.keepIn K (.ref f2) = true) (b2 : Binds K fd2 ["work", "distance", "thing"] []) (g2 : mg "shows_stretch" = some (.ref f2))
    (G3 : FnOk P w K mg base CX0 (k + 1) f3 fd3 ["work", "waits"] (spStretched K)) (kp3 : PySem.W.keepIn K (.ref f3) = true) (b3 : Binds K fd3 ["work", "waits"] []) (g3 : mg "stretched" = some (.ref f3))
    (G4 : FnOk P w K mg base CX0 (k + 1) f4 fd4 ["work"] (spMostV K)) (kp4 : PySem.W.keepIn K (.ref f4) = true) (b4 : Binds K fd4 ["work"] []) (g4 : mg "most_visits" = some (.ref f4))
    (G5 : FnOk P w K mg base CX0 (k + 1) f5 fd5 ["one", "other"] (spBars K)) (kp5 : PySem.W.keepIn K (.ref f5) = true) (b5 : Binds K fd5 ["one", "other"] []) (g5 : mg "bars" = some (.ref f5))
    (G6 : FnOk P w K mg base CX0 (k + 1) f6 fd6 ["work"] (spConstants K)) (kp6 : PySem.W.keepIn K (.ref f6) = true) (b6 : Binds K fd6 ["work"] []) (g6 : mg "constants" = some (.ref f6))
    (G7 : FnOk P w K mg base CX0 (k + 1) f7 fd7 ["line", "lap"] (spFits K C)) (kp7 : PySem.W.keepIn K (.ref f7) = true) (b7 : Binds K fd7 ["line", "lap"] []) (g7 : mg "fits" = some (.ref f7))
    (G8 : FnOk P w K mg base CX0 (k + 1) f8 fd8 ["line", "plan"] (spClashP K C)) (kp8 : PySem.W.keepIn K (.ref f8) = true) (b8 : Binds K fd8 ["line", "plan"] []) (g8 : mg "clash" = some (.ref f8))
    (m1 : mg "max" = none) (m2 : mg "len" = none) (m3 : mg "tuple" = none) (m4 : mg "range" = none) :
    FnOk P w K mg base CX0 (k + 2) f fd ["_law_items", "_law_distance"] (spRight K) := by
  refine F.ok (k := k + 1) sc_l_right (fun vs H Q E h => ?_) (fun cdv A outer s H vs Q E hr h => ?_)
  · obtain ⟨a, ns, m, d, rfl, _⟩ := h; rfl
  · obtain ⟨a, ns, m, d, rfl, hF, hw, hl, hN, hm, hmd, d12, q⟩ := h
    have hu := hr.units
    refine ⟨_, pss_cons (ps_set (i := 2) sc_l_right.nd rfl (.inl rfl) (pe_call G1 hr (by rfl) g1 kp1 b1 .nil pass0 (pa_cons (pv 0) (pa_cons (pv 1) pa_nil))))
      (pss_cons (ps_if (PW.pt (pw_or (pt_cmpR op_isN (pv 2) pe_non (by first | exact nomark _ | with_unfolding_all rfl)) (pw_or1 (pt_cmpR op_isnot_bl (pe_call G2 hr (by rfl) g2 kp2 b2 .nil pass0 (pa_cons (pv 0) (pa_cons (pv 1) (pa_cons (pv 2) pa_nil)))) pe_bl (by first | exact nomark _ | with_unfolding_all rfl))))) (pss_one (ps_ret pe_bl)) pss_nil)
      (pss_cons (ps_set (i := 3) sc_l_right.nd rfl (by first | exact .inl rfl | exact .inr rfl) (pe_call G3 hr (by rfl) g3 kp3 b3 .nil pass0 (pa_cons (pv 0) (pa_cons (pv 2) pa_nil))))
      (pss_cons (ps_if (pt_cmpR op_ne (pe_call G4 hr (by rfl) g4 kp4 b4 .nil pass0 (pa_cons (pv 0) pa_nil)) (pe_callB (cr_max rfl) (by rfl) m1 (by decide +kernel) (pa_cons
          (pe_lc (own := [("_law_one", 4)]) (g := gName 4) rfl sc_l_right.nd (pi_tup (pv 0)) (blkOk_by (N := rightN) (sc := defScope s_l_right) (by decide +kernel))
            (fun _ _ _ _ _ => pg_name (i := 4) sc_l_right.nd rfl (Or.inl rfl)) (fun _ _ _ _ _ => pts_one (pt_cmpR op_ne (pv 4) (pe_un un_neg pe_int) (nomark _)))
            (fun _ _ _ _ _ => pe_bmF PySem.F.plainAttrs_tuple PySem.F.slot_tuple_count PySem.F.type_tuple_count (mt_tcountK (K := K) rfl) (pv 3) (pa_cons (pv 4) pa_nil))) pa_nil)) (nomark _)) (pss_one (ps_ret pe_bl)) pss_nil)
      (pss_cons (ps_if (pt_cmpR op_gt (pe_callB call_len_seq (by rfl) m2 PySem.boot_len (pa_cons (pv 3) pa_nil)) pe_int (nomark _)) (pss_one (ps_ret pe_bl)) pss_nil)
      (pss_cons (ps_if (PW.pt (pw_or (pt_cmpR (op_neNil (by exact Nat.lt_of_le_of_lt (Nat.le_add_right _ _) hu)) (pe_lc (own := [("_law_bar", 5)]) (g := gName 5) rfl sc_l_right.nd (pi_tup (pe_call G5 hr (by rfl) g5 kp5 b5 .nil pass0 (pa_cons (pv 3) (pa_cons (pv 3) pa_nil)))) (blkOk_by (N := rightN) (sc := defScope s_l_right) (by decide +kernel))
            (fun _ _ _ _ _ => pg_name (i := 5) sc_l_right.nd rfl (Or.inl rfl)) (fun _ _ _ _ _ => pts_one (pt_cmpR op_eq (pe_op op_mod (pv 5) (pv 1)) pe_int (nomark _))) (fun _ _ _ _ _ => pe_int)) (pe_lst pa_nil) (by first | exact nomark _ | with_unfolding_all rfl))
          (pw_or1 (pt_cmpR op_ne (pe_call G4 hr (by rfl) g4 kp4 b4 .nil pass0 (pa_cons (pv 3) pa_nil)) (pe_call G4 hr (by rfl) g4 kp4 b4 .nil pass0 (pa_cons (pv 0) pa_nil)) (nomark _))))) (pss_one (ps_ret pe_bl)) pss_nil)
      (pss_cons (ps_if (PW.pt (pw_and (pt_cmpR op_le (pv 1) (pe_callB call_len_seq (by rfl) m2 PySem.boot_len (pa_cons (pv 3) pa_nil)) (nomark _))
          (pw_and1 (pt_cmpR op_notIn_seq (pv 1) (pe_call G6 hr (by rfl) g6 kp6 b6 .nil pass0 (pa_cons (pv 3) pa_nil)) (by first | exact nomark _ | with_unfolding_all rfl))))) (pss_one (ps_ret pe_bl)) pss_nil)
      (pss_cons (ps_par (i := 6) (j := 7) (by rfl) sc_l_right.nd rfl rfl (by decide) rfl rfl (pa_cons (PE.imp (t' := tLine K C 3) (pe_makeR MI GI hr (by rfl) T.mgC pass0 (pa_cons (pv 3) pa_nil)) fun σ H Q ⟨t, L, h1, h2, h3, h4⟩ => ⟨_, h1, make_line (vs := [V.ref t]) (ws := [L]) (.on (Tp.ofInts (ns := L) h2) .no) (one_good h3) fun HL la eL _ hLA => h4 HL la eL hLA⟩)
          (pa_cons (pe_callTy (call_tuple_ofK (K := K) rfl) (by rfl) m3 (by decide +kernel) (pa_cons
            (pe_lc (own := [("_law_piece", 8)]) (g := gName 8) (tt := tYes) rfl sc_l_right.nd (pi_range1 (by rfl) m4 (pa_cons pe_int pa_nil)) (blkOk_by (N := rightN) (sc := defScope s_l_right) (by decide +kernel))
              (fun _ _ _ _ _ => pg_name (i := 8) sc_l_right.nd rfl (Or.inl rfl)) (fun _ _ _ _ _ => pts_nil) (fun _ _ _ _ _ => pe_tup (pa_cons (pe_op op_mul (pv 1) (pv 8)) (pa_cons pe_int pa_nil)))) pa_nil)) pa_nil)) (by rfl))
      (pss_one (ps_ret (pe_and (pe_cmpR op_is_bl (pe_call G7 hr (by rfl) g7 kp7 b7 .nil pass0 (pa_cons (pv 6) (pa_cons (pe_op (op_catB (K := K) rfl) (pe_tup (pa_cons pe_int pa_nil)) (pe_op op_repS (pe_tup (pa_cons (pe_un un_neg pe_int) pa_nil)) (pe_op op_sub (pv 1) pe_int))) pa_nil))) pe_bl (by first | exact nomark _ | with_unfolding_all rfl))
        (pe_one (pe_cmpR op_isN (pe_call G8 hr (by rfl) g8 kp8 b8 .nil pass0 (pa_cons (pv 6) (pa_cons (pv 7) pa_nil))) pe_non (by first | exact nomark _ | with_unfolding_all rfl))))))))))))), ?_⟩
    have hp := hw.pos
    have hm1 := hm.pos hw
    have d1 : 1 ≤ d := by omega
    have big : 16000000 ≤ sizeLine := by rw [sizeLine_eq]; decide
    have B := hm.best hw (d := d) hmd
    obtain ⟨x, rs, rfl⟩ : ∃ x rs, ns = x :: rs := by
      cases ns with
      | nil => exact absurd hp (by decide)
      | cons x rs => exact ⟨x, rs, rfl⟩
    have hv := B.fz.len
    have hvl : (lw (x :: rs) d).length = rs.length := by rw [List.length_cons] at hv; omega
    have hl8 : rs.length ≤ 7 := by rw [List.length_cons] at hl; omega
    have hW : Waits (wI (lw (x :: rs) d)) rs := ⟨by rw [wI_len]; omega, by rw [wI_len]; omega, fun y hy => by
      obtain ⟨w', hw', rfl⟩ := List.mem_map.mp hy
      have := B.fz.lt w' hw'
      omega⟩
    have hcB := fz_const hw d1 B.fz
    have hfew := put_few (x := x) (rs := rs) (v := lw (x :: rs) d) (d : Int)
    have hcnt : ∀ s : Int, s ≠ -1 → (putN x (wI (lw (x :: rs) d)) rs (wI (lw (x :: rs) d)).length).count s = (x :: rs).count s := fun s hs => by
      rw [wI_len, put_count hs hvl _ (Nat.le_refl _), hvl, List.take_of_length_le (by rw [List.length_cons]; exact Nat.le_refl _)]
    have hmost := (put_most (x := x) (rs := rs) hvl (m := m)).mpr hm
    have hwork := put_work (x := x) hw hvl
    have hlen := put_len hW x (wI (lw (x :: rs) d)).length
    rw [wI_len] at hlen
    refine ⟨.ref a, rfl, .int (d : Nat), rfl, a, x :: rs, d, rfl, hF.sq, hw, hl, hN, d1, d12, B, fun H1 wr e1 hwr => ?_⟩
    generalize lw (x :: rs) d = v at hv hvl hW hcB hfew hcnt hmost hwork hlen hwr ⊢
    have hF1 := hF.same e1
    refine ⟨.ref wr, rfl, rfl, _, rfl, ?_⟩
    rw [decide_eq_false (show ¬ V.ref wr = V.non from fun z => nomatch z)]
    refine iteF ⟨.ref a, rfl, .int (d : Nat), rfl, .ref wr, rfl, a, wr, x, rs, wI v, d, rfl, hF1.sq, hwr, hW, hw, by omega, d1, d12, by omega, fun H2 e2 => ?_⟩
    rw [hcB]
    refine ⟨true, true, rfl, rfl, _, rfl, iteF ?_⟩
    have hF2 := hF1.same e2
    have hwr2 := Same.tup e2 hwr
    refine ⟨.ref a, rfl, .ref wr, rfl, a, wr, x, wI v, rs, rfl, hF2.sq, hwr2, hW, hw, fun H3 t e3 _ ht => ?_⟩
    generalize putN x (wI v) rs (wI v).length = L at hcB hfew hcnt hmost hwork hlen ht ⊢
    have hF3 := hF2.same e3
    have e13 := e1.trans (e2.trans e3)
    -- the most visits
    refine ⟨.ref a, rfl, a, _, rfl, hF3, hw, fun H4 m1' e4 hm1' => ?_⟩
    obtain rfl := hm1'.uniq hm
    have hF4 := hF3.same e4
    have ht4 := ht.same e4
    refine ⟨.ref a, rfl, a, rfl, ⟨_, hF4.sq⟩, fun D hD => ?_⟩
    have lm : ((x :: rs).map V.int).length = (x :: rs).length := List.length_map _
    refine lc_tup (xs := (x :: rs).map V.int) (fun i H' => Same H4 H' ∧ H' D = some (.lst ((cntsL (x :: rs) L i).map V.int))) ⟨same_new hD, upd_same⟩ (fun i H' _ h => (hF4.same h.1).sq) (fun i y H' hy h => ?_) (fun H5 h => ?_)
    · obtain ⟨sm, hDl⟩ := h
      rw [List.getElem?_map] at hy
      obtain ⟨z, hz, rfl⟩ := Option.map_eq_some_iff.mp hy
      have hi := (List.getElem?_eq_some_iff.mp hz).1
      have htS := ht4.same sm
      refine ⟨rfl, .int z, rfl, 1, rfl, rfl, ?_⟩
      have stp : cntsL (x :: rs) L (i + 1) = cntsL (x :: rs) L i ++ (if z ≠ -1 then [(L.count z : Int)] else []) := by
        unfold cntsL
        rw [List.take_add_one, hz, List.filter_append, List.map_append]
        congr 1
        show List.map _ (List.filter _ [z]) = _
        by_cases hz1 : z = -1
        · simp [hz1]
        · simp [hz1]
      have lc : (cntsL (x :: rs) L i).length ≤ i := by
        unfold cntsL
        have h1 := List.length_filter_le (fun x : Int => decide (x ≠ -1)) ((x :: rs).take i)
        rw [List.length_take] at h1
        rw [List.length_map]; omega
      rw [stp]
      by_cases hz1 : z = -1
      · rw [if_neg (fun y => y hz1), List.append_nil]
        rw [show (!decide (V.int z = V.int (-1))) = false from by rw [hz1, decide_eq_true rfl]; rfl]
        exact ⟨_, rfl, iteF ⟨sm, hDl⟩⟩
      · rw [if_pos hz1]
        rw [show (!decide (V.int z = V.int (-1))) = true from by rw [decide_eq_false fun y => hz1 (V.int.inj y)]; rfl]
        refine ⟨_, rfl, iteT ⟨.ref t, rfl, ⟨t, _, rfl, htS⟩, .int z, rfl, t, L, _, rfl, rfl, htS.sq, ?_⟩⟩
        refine ⟨_, hDl, ?_, fun b o e => ?_, ?_⟩
        · rw [List.length_map]
          exact small1000 (by omega)
        · rw [upd_ne (ne_of_none e hD)]
          exact sm _ _ e
        · rw [upd_same, List.map_append]; rfl
    obtain ⟨e5, hDl⟩ := h
    rw [lm] at hDl
    have ec : cntsL (x :: rs) L (x :: rs).length = ((x :: rs).filter fun z => decide (z ≠ -1)).map fun z => ((x :: rs).count z : Int) := by
      unfold cntsL
      rw [List.take_length]
      refine List.map_congr_left fun y hy => ?_
      rw [hcnt y (of_decide_eq_true (List.mem_filter.mp hy).2)]
    have nec : cntsL (x :: rs) L (x :: rs).length ≠ [] := by
      rw [ec]
      intro z
      have z1 := List.map_eq_nil_iff.mp z
      have : x ∈ (x :: rs).filter fun x => decide (x ≠ -1) := List.mem_filter.mpr ⟨List.mem_cons_self, decide_eq_true (hw.head x rfl)⟩
      rw [z1] at this
      exact nomatch this
    refine ⟨D, cntsL (x :: rs) L (x :: rs).length, rfl, .of hDl, List.length_pos_iff.mpr nec, fun m2' k1 k2 => ?_⟩
    have hm2' : Mv (x :: rs) m2' := by
      rw [ec] at k1 k2
      obtain ⟨y, hy, ey⟩ := List.mem_map.mp k1
      obtain ⟨y1, y2⟩ := List.mem_filter.mp hy
      have i1 := hw.items y y1
      have y2 := of_decide_eq_true y2
      refine ⟨List.mem_map.mpr ⟨y.toNat, List.mem_range.mpr (by omega), by rw [show ((y.toNat : Nat) : Int) = y from by omega]; exact ey⟩, fun z hz => ?_⟩
      obtain ⟨k', hk', rfl⟩ := List.mem_map.mp hz
      by_cases hk0 : ((k' : Nat) : Int) ∈ (x :: rs)
      · exact k2 _ (List.mem_map.mpr ⟨_, List.mem_filter.mpr ⟨hk0, decide_eq_true (by omega)⟩, rfl⟩)
      · rw [List.count_eq_zero.mpr hk0, ← ey]; omega
    obtain rfl := hm2'.uniq hm
    refine ⟨rfl, ?_⟩
    rw [show (!decide (V.int m2' = V.int m2')) = false from by rw [decide_eq_true rfl]; rfl]
    refine ⟨_, rfl, iteF ?_⟩
    have e15 := e13.trans (e4.trans e5)
    have hF5 := hF4.same e5
    have ht5 := ht4.same e5
    -- a long one
    have lL : ((L.map V.int).length : Int) = (L.length : Nat) := by rw [List.length_map]
    refine ⟨.ref t, rfl, t, _, rfl, .inr ht5.sq, _, 60, rfl, rfl, _, rfl, ?_⟩
    by_cases h60 : 60 < L.length
    · rw [decide_eq_true (by rw [lL]; omega)]
      exact iteT (q H5 e15)
    rw [decide_eq_false (by rw [lL]; omega)]
    have hLw := hwork (by omega)
    refine iteF ?_
    -- the bars
    refine ⟨.ref t, rfl, .ref t, rfl, t, t, L, L, rfl, ht5.sq, ht5.sq, hLw, hLw, fun H6 br e6 _ hbr => ?_⟩
    refine ⟨br, rfl, ⟨_, .of hbr⟩, fun D2 hD2 => ?_⟩
    refine lc_tup (xs := nV (barsN L L)) (fun i H' => Same H6 H' ∧ H' D2 = some (.lst [])) ⟨same_new hD2, upd_same⟩ (fun i H' _ h => .of (h.1 _ _ hbr)) (fun i y H' hy h => ?_) (fun H7 h => ?_)
    · obtain ⟨sm, hDl⟩ := h
      obtain ⟨b, hb, rfl⟩ : ∃ b : Nat, b ∈ barsN L L ∧ y = .int (b : Nat) := by
        have hm := List.mem_of_getElem? hy
        obtain ⟨b, hb, e⟩ := List.mem_map.mp hm
        exact ⟨b, hb, e.symm⟩
      have nb := const_bars d1 hcB hb
      refine ⟨rfl, .int (b : Nat), rfl, .int (d : Nat), rfl, (b : Nat), (d : Nat), rfl, rfl, by show (0 : Int) < (d : Nat); omega, rfl, ?_⟩
      rw [show decide (V.int (((b : Nat) : Int) % ((d : Nat) : Int)) = V.int 0) = false from decide_eq_false fun g => nb (by have := V.int.inj g; omega)]
      exact ⟨_, rfl, iteF ⟨sm, hDl⟩⟩
    obtain ⟨e7, hDl7⟩ := h
    refine ⟨Nat.zero_le _, fun D3 hD3 => ?_⟩
    have e8 := same_new (o := .lst ([] : List V)) hD3
    have hD38 : (upd H7 D3 (.lst ([] : List V))) D3 = some (.lst []) := upd_same
    have hD28 := e8 _ _ hDl7
    have e58 := e6.trans (e7.trans e8)
    generalize upd H7 D3 (.lst ([] : List V)) = H8 at e8 hD38 hD28 e58 ⊢
    refine ⟨D2, D3, [], rfl, rfl, .of hD28, .of hD38, _, rfl, iteF ?_⟩
    have e18 := e15.trans e58
    have ht8 := ht5.same e58
    have hF8 := hF5.same e58
    refine ⟨.ref t, rfl, t, L, rfl, ht8, hLw, fun H9 m3' e9 hm3 => ?_⟩
    obtain rfl := hm3.uniq hmost
    refine ⟨.ref a, rfl, a, _, rfl, hF8.same e9, hw, fun H10 m4' e10 hm4 => ?_⟩
    obtain rfl := hm4.uniq hm
    refine ⟨rfl, ?_⟩
    rw [show (!decide (V.int m4' = V.int m4')) = false from by rw [decide_eq_true rfl]; rfl]
    refine ⟨_, rfl, iteF ?_⟩
    have e810 := e9.trans e10
    have ht10 := ht8.same e810
    have hF10 := hF8.same e810
    have e110 := e18.trans e810
    -- constants
    refine ⟨.int (d : Nat), rfl, .ref t, rfl, t, _, rfl, .inr ht10.sq, (d : Nat), _, rfl, rfl, _, rfl, ?_⟩
    by_cases hdl : d ≤ L.length
    case' pos =>
      rw [decide_eq_true (show ((d : Nat) : Int) ≤ ((L.map V.int).length : Nat) by rw [lL]; omega)]
      refine iteT ⟨.int (d : Nat), rfl, .ref t, rfl, t, L, rfl, ht10.sq, hLw, fun HZ ct eZ _ hct => ⟨ct, _, rfl, .inr (.of hct), rfl, flat_ints _, _, rfl, ?_⟩⟩
      rw [show (if true = true then !inV (V.int (d : Nat)) ((constTo L L.length).map V.int) else inV (V.int (d : Nat)) ((constTo L L.length).map V.int)) = false from by
        rw [if_pos rfl, inV_ints, decide_eq_true (constTo_has d1 hdl hcB)]; rfl]
      refine iteF ?_
      have E := e110.trans eZ
      have hTZ := ht10.same eZ
    case' neg =>
      rw [decide_eq_false (show ¬ ((d : Nat) : Int) ≤ ((L.map V.int).length : Nat) by rw [lL]; omega)]
      refine iteF ?_
      obtain ⟨HZ, rfl⟩ : ∃ HZ, HZ = H10 := ⟨H10, rfl⟩
      have E := e110
      have hTZ := ht10
    all_goals
      clear e110 e810 e18 e58 e15 e13
      -- the line
      refine ⟨t, L, rfl, hTZ.sq, hLw, fun HL la eL hLA => ?_⟩
      -- the plan
      refine ⟨10, rfl, by decide, by decide, fun D4 hD4 => ?_⟩
      have lds : (planD (tenP d)).length = 10 := by unfold tenP; rw [List.length_map, List.length_map, List.length_range]
      refine lc_range (lo := 0) (n := 10) (fun i H' => Grow K HL D4 (planD (tenP d)) i H') (.zero hD4) (fun i H' hi h => ?_) (fun H' h => ?_)
      · refine ⟨rfl, .int (d : Nat), rfl, .int (0 + (i : Nat)), rfl, (d : Nat), 0 + (i : Nat), rfl, rfl, .inl ⟨by omega, by omega⟩, by show 2 ≤ sizeLine; omega, fun z nz => ?_⟩
        have ez := same_new (o := .tup [V.int (((d : Nat) : Int) * (0 + (i : Nat))), .int 0]) nz
        obtain ⟨acc, k1, k2, k3⟩ := Grow.next (d := startD (((d * i : Nat) : Int), 0)) (v := .ref z) hD4 (by rw [lds]; decide) h ez (by unfold tenP planD; rw [List.getElem?_map, List.getElem?_map, List.getElem?_range hi]; rfl) (Tp.ofInts (ns := [((d * i : Nat) : Int), 0]) (.of (by rw [upd_same]; show some (HO.tup [V.int (((d : Nat) : Int) * (0 + (i : Nat))), .int 0]) = some (HO.tup [V.int ((d * i : Nat) : Int), V.int 0]); rw [show ((d : Nat) : Int) * (0 + ((i : Nat) : Int)) = ((d * i : Nat) : Int) from by rw [Int.zero_add, Int.natCast_mul]])))
        exact ⟨acc, k1, k2, k3⟩
      obtain ⟨eP, acc, hP1, hP2⟩ := h.done lds.symm
      refine ⟨D4, acc, rfl, .inl ⟨.of hP1, fun pt npt => ?_⟩⟩
      have ept := same_new (o := .tup acc) npt
      have hpt : Tp K (upd H' pt (.tup acc)) (.ref pt) (.tuple (planD (tenP d))) := Tp.new npt hP2
      have eLP := eP.trans ept
      have hLA2 := hLA.stay (.of eLP)
      have E2 := E.trans (eL.trans eLP)
      generalize upd H' pt (.tup acc) = HP at hpt hLA2 E2 ept eLP ⊢
      refine ⟨_, _, rfl, ?_⟩
      -- the lap
      refine ⟨.ref la, rfl, by show 1 ≤ sizeLine; omega, fun o1 no1 => ⟨1, rfl, by show 1 ≤ sizeLine; omega, fun o2 no2 => ?_⟩⟩
      have eo1 := same_new (o := .tup [V.int 0]) no1
      have ho1 : (upd HP o1 (.tup [V.int 0])) o1 = some (.tup [V.int 0]) := upd_same
      generalize upd HP o1 (.tup [V.int 0]) = HQ at eo1 ho1 no2 ⊢
      have eo2 := same_new (o := .tup [V.int (-1)]) no2
      refine ⟨.int (d : Nat), rfl, (d : Nat), 1, rfl, rfl, o2, d - 1, [V.int (-1)], rfl, congrArg V.int (by omega), .of upd_same, (fun y => nomatch y), by omega, by decide, fun HR o3 eo3 ho3 => ?_⟩
      have e23 := eo2.trans eo3
      have erep : (List.replicate (d - 1) [V.int (-1)]).flatten = (List.replicate (d - 1) (-1 : Int)).map V.int := by
        rw [List.map_replicate]
        generalize d - 1 = n
        induction n with
        | zero => rfl
        | succ n ih => rw [List.replicate_succ, List.flatten_cons, ih, List.replicate_succ]; rfl
      rw [erep] at ho3
      refine ⟨o1, o3, [V.int 0], _, rfl, rfl, .of (e23 _ _ ho1), ho3, by rw [List.length_map, List.length_replicate]; show 1 + _ ≤ _; omega, fun HS o4 eo4 ho4 => ?_⟩
      have ePS := eo1.trans (e23.trans eo4)
      refine ⟨la, o4, [L], 0 :: List.replicate (d - 1) (-1), rfl, hLA2.stay (.of ePS), ho4, ⟨by rw [List.length_cons]; omega, by rw [List.length_cons, List.length_replicate]; omega, fun y hy => ?_⟩, fun HT r eT hr' => ?_⟩
      · rcases List.mem_cons.mp hy with rfl | hy
        · exact ⟨by decide, by show (0 : Int) < ((1 : Nat) : Int); decide⟩
        · rw [List.eq_of_mem_replicate hy]; exact ⟨Int.le_refl _, by show (-1 : Int) < ((1 : Nat) : Int); decide⟩
      obtain rfl : r = true := hr'.mpr (noClash_one d1 hcB)
      refine ⟨true, true, rfl, rfl, true, rfl, iteT ?_⟩
      have ePT := ePS.trans eT
      refine ⟨.ref la, rfl, .ref pt, rfl, la, pt, [L], tenP d, rfl, hLA2.stay (.of ePT), hpt.stay (.of ePT), tenP_good d1, fun HU y eU hy => ?_⟩
      have := (due_non hy).mpr (tenP_apart d1 hcB)
      refine ⟨rfl, ?_⟩
      rw [this]
      exact q _ (E2.trans (ePT.trans eU))
end
end Sg
set_option Elab.async false
set_option linter.all false
set_option maxRecDepth 100000
set_option maxHeartbeats 4000000
namespace Sg
open PySem PySem.Spec PyProof.Rows L2 StX
theorem cr_minT {X : Cx} (hc : X.calm = true) {j : Nat} (hr : Room j X.A) : CallR X (.builtin "min") (fun vs H Q => ∃ (a : Addr) (ns : List Int), vs = [.ref a] ∧ SqT X.K H a (ns.map V.int) ∧ ns ≠ [] ∧
    ∀ m : Int, m ∈ ns → (∀ x ∈ ns, m ≤ x) → Q (.int m) H) := by
  intro pins s σ H xs us Q I r h
  obtain ⟨a, ns, rfl, hs, ne, q⟩ := h
  rw [Vals.ref1 r]
  obtain ⟨n, ns, rfl⟩ : ∃ n l, ns = n :: l := by
    cases ns with
    | nil => exact absurd rfl ne
    | cons n l => exact ⟨n, l, rfl⟩
  obtain ⟨its, rv, hl, hzz⟩ := I.tuple hs
  obtain ⟨as, rd⟩ := Dp.readsAll I (iD (n :: ns)) _ its (dpInts (n :: ns)) rv
  have al : PySem.W.AlikeAll (.int n :: iD ns) := by
    constructor
    · intro x hx y hy
      obtain ⟨i, _, rfl⟩ := List.mem_map.mp (show x ∈ iD (n :: ns) from hx)
      obtain ⟨j, _, rfl⟩ := List.mem_map.mp (show y ∈ iD (n :: ns) from hy)
      rfl
    · intro x hx z
      obtain ⟨i, _, rfl⟩ := List.mem_map.mp (show x ∈ iD (n :: ns) from hx)
      exact nomatch z
  have dep : PyData.depthAll (.int n :: iD ns) = 0 := PySem.W.depth_ints (n :: ns)
  have hu := hr.units
  refine PySem.W.min_tuple_data (I.ok.hd hc) hl (x := .int n) (xs := iD ns) (by simpa using rd) al (by rw [dep]; omega) (fun i v h' tk bs hv hrd hk => ?_)
  rw [PySem.W.minD_ints] at hrd
  cases hrd
  have key : ∀ (l : List Int) (a : Int), (l.foldl min a = a ∨ l.foldl min a ∈ l) ∧ l.foldl min a ≤ a ∧ ∀ x ∈ l, l.foldl min a ≤ x := by
    intro l
    induction l with
    | nil => intro a; exact ⟨.inl rfl, Int.le_refl _, fun x hx => nomatch hx⟩
    | cons b l ih =>
      intro a
      obtain ⟨g1, g2, g3⟩ := ih (min a b)
      refine ⟨?_, by show l.foldl min (min a b) ≤ a; omega, fun x hx => ?_⟩
      · rcases g1 with g1 | g1
        · show l.foldl min (min a b) = a ∨ l.foldl min (min a b) ∈ b :: l
          by_cases z : a ≤ b
          · exact .inl (by omega)
          · exact .inr (by rw [g1, show min a b = b by omega]; exact List.mem_cons_self)
        · exact .inr (List.mem_cons_of_mem _ g1)
      · show l.foldl min (min a b) ≤ x
        rcases List.mem_cons.mp hx with rfl | hx
        · omega
        · exact g3 x hx
  obtain ⟨k1, k2, k3⟩ := key ns n
  refine ⟨.int _, H, I.kept hk, ⟨_, rfl⟩, q _ ?_ fun x hx => ?_⟩
  · rcases k1 with k1 | k1
    · rw [k1]; exact List.mem_cons_self
    · exact List.mem_cons_of_mem _ k1
  · rcases List.mem_cons.mp hx with rfl | hx
    · exact k2
    · exact k3 x hx
theorem lcd_uniq {ns : List Int} {c c' : Nat} (h : lcd ns c) (h' : lcd ns c') : c = c' := by
  obtain ⟨a1, a2, a3, a4⟩ := h
  obtain ⟨b1, b2, b3, b4⟩ := h'
  rcases Nat.lt_trichotomy c c' with z | z | z
  · have := b4 c a1 z; rw [a3] at this; exact nomatch this
  · exact z
  · have := a4 c' b1 z; rw [b3] at this; exact nomatch this
noncomputable def pairL2 (ns : List Int) (m n : Nat) : List (List Int) := (List.range n).map fun j => [((m + j : Nat) : Int), (wI (lw ns (m + j))).sum]
theorem pairsT_tDs (ns : List Int) (m n : Nat) : pairsT ns m n = tDs (pairL2 ns m n) := by
  unfold pairsT pairL2 tDs
  rw [List.map_map]; rfl
section
variable {P : Program} {w : World} {K : PySem.W.Frag} {mg : Str → Option Value} {base : Heap}
def spLaw (K : PySem.W.Frag) : Sp := fun vs H Q _ => ∃ (a : Addr) (ns : List Int), vs = [.ref a] ∧ SqL K H a (ns.map V.int) ∧ ns.length ≤ 63 ∧ ∀ H', Q (.bl true) H'
theorem ok_law {f f1 f2 f3 f4 f5 f6 f7 f8 : Addr} {fd fd1 fd2 fd3 fd4 fd5 fd6 fd7 fd8 : FuncData} {k : Nat} (F : Fun K "law" "law" s_law f fd)
    (G1 : FnOk P w K mg base CX0 k f1 fd1 ["_law_script", "_law_k"] (spCell K)) (kp1 : PySem.W.keepIn K (.ref f1) = true) (b1 : Binds K fd1 ["_law_script", "_law_k"] []) (g1 : mg "_law_cell" = some (.ref f1))
    (G2 : FnOk P w K mg base CX0 k f2 fd2 ["_law_cell_here"] spPen) (kp2 : PySem.W.keepIn K (.ref f2) = true) (b2 : Binds K fd2 ["_law_cell_here"] []) (g2 : mg "_law_pen" = some (.ref f2))
    (G3 : FnOk P w K mg base CX0 k f3 fd3 ["_law_pen_here", "_law_long", "_law_many"] spWork) (kp3 : PySem.W.keepIn K (.ref f3) = true) (b3 : Binds K fd3 ["_law_pen_here", "_law_long", "_law_many"] []) (g3 : mg "_law_work" = some (.ref f3))
    (G4 : FnOk P w K mg base CX0 k f4 fd4 ["work"] (spMostV K)) (kp4 : PySem.W.keepIn K (.ref f4) = true) (b4 : Binds K fd4 ["work"] []) (g4 : mg "most_visits" = some (.ref f4))
    (G5 : FnOk P w K mg base CX0 k f5 fd5 ["_law_items", "_law_distance"] (spRight K)) (kp5 : PySem.W.keepIn K (.ref f5) = true) (b5 : Binds K fd5 ["_law_items", "_law_distance"] []) (g5 : mg "_law_right" = some (.ref f5))
    (G6 : FnOk P w K mg base CX0 k f6 fd6 ["work", "distance"] (spStretch K)) (kp6 : PySem.W.keepIn K (.ref f6) = true) (b6 : Binds K fd6 ["work", "distance"] []) (g6 : mg "stretch" = some (.ref f6))
    (G7 : FnOk P w K mg base CX0 k f7 fd7 ["work"] (spConstants K)) (kp7 : PySem.W.keepIn K (.ref f7) = true) (b7 : Binds K fd7 ["work"] []) (g7 : mg "constants" = some (.ref f7))
    (G8 : FnOk P w K mg base CX0 k f8 fd8 ["work"] (spTrade K)) (kp8 : PySem.W.keepIn K (.ref f8) = true) (b8 : Binds K fd8 ["work"] []) (g8 : mg "trade" = some (.ref f8))
    (m1 : mg "len" = none) (m2 : mg "range" = none) (m3 : mg "sum" = none) (m4 : mg "tuple" = none) (m5 : mg "max" = none) (m6 : mg "min" = none) : FnG P w K mg base (k + 1) f fd ["_law_script"] (spLaw K) := by
  refine FnG.of (F.ok sc_law (fun vs H Q E h => ?_) (fun cdv A outer s H vs Q E hr h => ?_))
  · obtain ⟨a, ns, rfl, _⟩ := h; rfl
  · obtain ⟨a, ns, rfl, hS, hlen, q⟩ := h
    have hu64 := hr.units
    refine ⟨_, (pss_cons (ps_for PassesOwn.never rfl (pi_range1 (by rfl) m2 (pa_cons (pe_callB (call_max2 rfl) (by rfl) m5 (by decide +kernel) (pa_cons pe_int (pa_cons (pe_callB (call_min2 rfl) (by rfl) m6 (by decide +kernel) (pa_cons (pe_callB call_len_seq (by rfl) m1 PySem.boot_len (pa_cons (pv 0) pa_nil)) (pa_cons pe_int pa_nil))) pa_nil))) pa_nil)) (pg_name (i := 1) sc_law.nd rfl (.inl rfl))
          (pss_cons (ps_set (i := 2) sc_law.nd rfl (.inl rfl) (pe_call G2 hr (by rfl) g2 kp2 b2 .nil pass0 (pa_cons (pe_call G1 hr (by rfl) g1 kp1 b1 .nil pass0 (pa_cons (pv 0) (pa_cons (pv 1) pa_nil))) pa_nil)))
          (pss_one (ps_for PassesOwn.never rfl (pi_range1 (by rfl) m2 (pa_cons pe_int pa_nil)) (pg_name (i := 3) sc_law.nd rfl (.inl rfl))
            (pss_cons (ps_set (i := 4) sc_law.nd rfl (by first | exact .inl rfl | exact .inr rfl) (pe_call G3 hr (by rfl) g3 kp3 b3 .nil pass0 (pa_cons (pv 2) (pa_cons pe_int (pa_cons pe_int pa_nil)))))
            (pss_cons (ps_for PassesOwn.never rfl (pi_range2 (by rfl) m2 (pa_cons (pe_call G4 hr (by rfl) g4 kp4 b4 .nil pass0 (pa_cons (pv 4) pa_nil)) (pa_cons pe_int pa_nil))) (pg_name (i := 5) sc_law.nd rfl (by first | exact .inl rfl | exact .inr rfl))
              (pss_cons (ps_if (pt_not (pt_val (pe_call G5 hr (by rfl) g5 kp5 b5 .nil pass0 (pa_cons (pv 4) (pa_cons (pv 5) pa_nil))))) (pss_one (ps_ret pe_bl)) pss_nil)
              (pss_one (ps_if (pt_cmpR op_ne (pe_cmpR op_eq (pe_callB (cr_sumTK (K := K) rfl rfl) (by rfl) m3 (by decide +kernel) (pa_cons (pe_call G6 hr (by rfl) g6 kp6 b6 .nil pass0 (pa_cons (pv 4) (pa_cons (pv 5) pa_nil))) pa_nil)) pe_int (nomark _))
                  (pe_or (pe_cmpR op_in_seq (pv 5) (pe_call G7 hr (by rfl) g7 kp7 b7 .nil pass0 (pa_cons (pv 4) pa_nil)) (by first | exact nomark _ | with_unfolding_all rfl)) (pe_one (pe_cmpR op_gt (pv 5) (pe_callB call_len_seq (by rfl) m1 PySem.boot_len (pa_cons (pv 4) pa_nil)) (nomark _)))) (nomark _)) (pss_one (ps_ret pe_bl)) pss_nil))))
            (pss_cons (ps_set (i := 6) sc_law.nd rfl (.inl rfl) (pe_call G8 hr (by rfl) g8 kp8 b8 .nil pass0 (pa_cons (pv 4) pa_nil)))
            (pss_cons (ps_if (pt_cmpR (op_neD (by exact Nat.lt_of_le_of_lt (Nat.add_le_add_left (by decide) _) hu64)) (pv 6) (pe_callTy (call_tuple_ofK (K := K) rfl) (by rfl) m4 (by decide +kernel) (pa_cons
                (pe_lc (own := [("_law_distance", 5), ("_law_total", 7)]) (g := gTup K 2 (gCons (gName 5) (gCons (gName 7) gNil))) (tt := tYes) rfl sc_law.nd (pi_tup (pv 6)) (blkOk_by (N := ["_law_script", "_law_k", "_law_pen_here", "_law_lap", "_law_items", "_law_distance", "_law_pairs", "_law_total"]) (sc := defScope s_law) (by decide +kernel))
                  (fun _ _ _ _ _ => pg_tup rfl (pgs_cons (pg_name (i := 5) sc_law.nd rfl (by first | exact .inl rfl | exact .inr rfl)) (pgs_cons (pg_name (i := 7) sc_law.nd rfl (by first | exact .inl rfl | exact .inr rfl)) pgs_nil))) (fun _ _ _ _ _ => pts_nil)
                  (fun _ _ _ _ _ => pe_tup (pa_cons (pv 5) (pa_cons (pe_callB (cr_sumTK (K := K) rfl rfl) (by rfl) m3 (by decide +kernel) (pa_cons (pe_call G6 hr (by rfl) g6 kp6 b6 .nil pass0 (pa_cons (pv 4) (pa_cons (pv 5) pa_nil))) pa_nil)) pa_nil)))) pa_nil)) (nomark _)) (pss_one (ps_ret pe_bl)) pss_nil)
            (pss_one (ps_if (PW.pt (pw_or (pt_cmpR op_ne (pe_ix ix_tup (pe_ix ix_tup (pv 6) pe_int (fun _ _ => rfl)) pe_int (fun _ _ => rfl)) (pe_call G4 hr (by rfl) g4 kp4 b4 .nil pass0 (pa_cons (pv 4) pa_nil)) (nomark _))
                (pw_or1 (pt_cmpR op_ne (pe_ix ix_tup (pe_ix ix_tup (pv 6) (pe_un un_neg pe_int) (fun _ _ => rfl)) pe_int (fun _ _ => rfl)) (pe_callB (cr_minT rfl hr) (by rfl) m6 (by decide +kernel) (pa_cons (pe_call G7 hr (by rfl) g7 kp7 b7 .nil pass0 (pa_cons (pv 4) pa_nil)) pa_nil)) (nomark _))))) (pss_one (ps_ret pe_bl)) pss_nil))))))))))
          (pss_one (ps_ret pe_bl))), ?_⟩
    have big : 1000 ≤ sizeLine := by rw [sizeLine_eq]; decide
    have l63 : ((ns.map V.int).length : Int) ≤ 63 := by rw [List.length_map]; omega
    refine ⟨.ref a, rfl, a, _, rfl, .inl hS, _, 3, rfl, 1, _, rfl, ?_⟩
    obtain ⟨N, hN, hN0, hN4⟩ : ∃ N : Int, (if (if (3 : Int) < ((ns.map V.int).length : Nat) then (3 : Int) else ((ns.map V.int).length : Nat)) > 1 then (if (3 : Int) < ((ns.map V.int).length : Nat) then (3 : Int) else ((ns.map V.int).length : Nat)) else 1) = N ∧ 0 ≤ N ∧ N ≤ 3 := by
      refine ⟨_, rfl, ?_, ?_⟩
      · split <;> split <;> omega
      · split <;> split <;> omega
    rw [hN]
    refine ⟨N, rfl, by omega, by omega, ?_⟩
    refine for_range (lo := 0) (n := N.toNat) (fun i σ H' => ∃ v1 v2 v3 v4 v5 v6 v7, σ = [some (.ref a), v1, v2, v3, v4, v5, v6, v7] ∧ Same H H') ⟨_, _, _, _, _, _, _, rfl, fun _ _ z => z⟩ ?_ ?_
    rotate_left
    · rintro σ H' ⟨_, _, _, _, _, _, _, rfl, _⟩
      exact q H'
    rintro i σ H1 hi ⟨v1, v2, v3, v4, v5, v6, v7, rfl, e1⟩
    refine ⟨.ref a, rfl, .int (0 + i), rfl, a, ns, i, by rw [Int.zero_add]; rfl, e1.seq hS, fun cell => ?_⟩
    refine ⟨cell, rfl, fun H2 p np s2 p2 => ?_⟩
    have npH : H p = none := freeS e1 np
    refine ⟨5, rfl, by decide, by decide, ?_⟩
    refine for_range (lo := 0) (n := 5) (fun j σ H' => ∃ v3 v4 v5 v6 v7, σ = [some (.ref a), some (.int (0 + i)), some (.ref p), v3, v4, v5, v6, v7] ∧ PenAt H' p ∧ Same H H') ⟨_, _, _, _, _, rfl, p2, fun b o z => s2 _ _ (e1 _ _ z)⟩ ?_ ?_
    rotate_left
    · rintro σ H' ⟨v3, v4, v5, v6, v7, rfl, _, e⟩
      exact ⟨_, _, _, _, _, _, _, rfl, e⟩
    rintro j σ H3 hj ⟨v3, v4, v5, v6, v7, rfl, p3, e3⟩
    refine ⟨.ref p, rfl, p, 8, 3, rfl, p3, by decide, by decide, by decide, by decide, fun H4 t its p4 b4 nt hF hk hlz hst => ?_⟩
    have e4 : Same H H4 := fun b o g => b4 b o (ne_of_none g npH) (e3 b o g)
    have n8 : its.length ≤ 8 := by omega
    have hst : ∃ N : List Int, N.length ≤ 3 ∧ ∀ x ∈ its, x = -1 ∨ x ∈ N := by
      obtain ⟨N, h1, h2⟩ := hst
      exact ⟨N, by omega, h2⟩
    refine ⟨.ref t, rfl, t, its, rfl, hF, hk, fun H5 mi e5 hm => ?_⟩
    obtain ⟨m, rfl, hml⟩ := hm.nat
    have hm1 := hm.pos hk
    refine ⟨(m : Nat), 13, rfl, ⟨by omega, by omega, by omega, by omega⟩, ?_⟩
    have en : ((13 : Int) - ((m : Nat) : Int)).toNat = 13 - m := by omega
    rw [en]
    have hF5 := hF.same e5
    have lm : ((its.map V.int).length : Int) = (its.length : Nat) := by rw [List.length_map]
    refine for_range (lo := (m : Nat)) (n := 13 - m) (fun n σ H' => ∃ v5 v6 v7, σ = [some (.ref a), some (.int (0 + i)), some (.ref p), some (.int (0 + (j : Nat))), some (.ref t), v5, v6, v7] ∧ Same H5 H')
      ⟨_, _, _, rfl, fun _ _ z => z⟩ (fun n σ H' hn h => ?_) (fun σ H' h => ?_)
    · obtain ⟨v5, v6, v7, rfl, e6⟩ := h
      have hF6 := hF5.same e6
      have B := hm.best hk (d := m + n) (by omega)
      refine ⟨.ref t, rfl, .int (((m : Nat) : Int) + (n : Nat)), rfl, t, its, (m : Nat), m + n, rfl, hF6, hk, n8, hst, hm, by omega, by omega, fun H7 e7 => ⟨true, rfl, iteF ?_⟩⟩
      have hF7 := hF6.same e7
      refine ⟨.ref t, rfl, .int (((m : Nat) : Int) + (n : Nat)), rfl, t, its, m + n, rfl, hF7.sq, hk, n8, hst, by omega, by omega, B, fun H8 s e8 hs => ?_⟩
      have hF8 := hF7.same e8
      refine ⟨s, _, rfl, hs, rfl, ?_⟩
      refine ⟨.int (((m : Nat) : Int) + (n : Nat)), rfl, .ref t, rfl, t, its, rfl, hF8.sq, hk, fun H9 ct e9 _ hct => ⟨ct, _, rfl, .inr (.of hct), rfl, flat_ints _, _, rfl, ?_⟩⟩
      have eF := e6.trans (e7.trans (e8.trans e9))
      have hz := sum_zero_iff hk (by omega) B
      have hin : (if false = true then !inV (V.int (((m : Nat) : Int) + (n : Nat))) ((constTo its its.length).map V.int) else inV (V.int (((m : Nat) : Int) + (n : Nat))) ((constTo its its.length).map V.int)) = decide (((m + n : Nat) : Int) ∈ constTo its its.length) := inV_ints _ _
      rw [hin]
      by_cases hc : ((m + n : Nat) : Int) ∈ constTo its its.length
      · rw [decide_eq_true hc]
        refine iteT ⟨rfl, ?_⟩
        have h0 := hz.mpr (constTo_mem.mp hc).2.2
        rw [decide_eq_true (show V.int (wI (lw its (m + n))).sum = V.int 0 by rw [h0])]
        rw [show (!decide (V.bl true = V.bl true)) = false from by rw [decide_eq_true rfl]; rfl]
        exact ⟨_, rfl, iteF ⟨_, _, _, rfl, eF⟩⟩
      · rw [decide_eq_false hc]
        refine iteF ⟨.int (((m : Nat) : Int) + (n : Nat)), rfl, .ref t, rfl, t, _, rfl, .inr ((hF5.same eF).sq), _, _, rfl, rfl, rfl, ?_⟩
        dsimp only
        by_cases hg : its.length < m + n
        · have h0 := hz.mpr (const_len its (m + n) (by omega))
          rw [decide_eq_true (show V.int (wI (lw its (m + n))).sum = V.int 0 by rw [h0])]
          refine ⟨false, congrArg V.bl ?_, iteF ⟨_, _, _, rfl, eF⟩⟩
          rw [decide_eq_true (show V.bl true = V.bl (decide ((((its.map V.int).length : Nat) : Int) < ((m : Nat) : Int) + (n : Nat))) from congrArg V.bl (decide_eq_true (by rw [lm]; omega)).symm)]; rfl
        · have h0 : ¬ (wI (lw its (m + n))).sum = 0 := fun z => hc (constTo_mem.mpr ⟨by omega, by omega, hz.mp z⟩)
          rw [decide_eq_false (show ¬ V.int (wI (lw its (m + n))).sum = V.int 0 from fun z => h0 (V.int.inj z))]
          refine ⟨false, congrArg V.bl ?_, iteF ⟨_, _, _, rfl, eF⟩⟩
          rw [decide_eq_true (show V.bl false = V.bl (decide ((((its.map V.int).length : Nat) : Int) < ((m : Nat) : Int) + (n : Nat))) from congrArg V.bl (decide_eq_false (by rw [lm]; omega)).symm)]; rfl
    obtain ⟨v5, v6, v7, rfl, e6⟩ := h
    have hF6 := hF5.same e6
    refine ⟨.ref t, rfl, t, its, rfl, hF6, hk, n8, hst, fun H7 pt m' c e7 hm' hc hp => ?_⟩
    have q1 := hm.uniq hm'
    obtain rfl : m = m' := by omega
    have hmc := hm.const hk hc
    obtain ⟨c1, c2, c3, c4⟩ := id hc
    obtain ⟨pt', xs, ept, hpq, hpa⟩ := hp.toTup
    cases ept
    have hF7 := hF6.same e7
    refine ⟨.ref pt, rfl, .ref pt, rfl, pt, rfl, ⟨_, hpq⟩, fun D nD => ?_⟩
    have lds : (pairsT its m (c + 1 - m)).length = c + 1 - m := by unfold pairsT; rw [List.length_map, List.length_range]
    have lxs : xs.length = c + 1 - m := by rw [hpa.len, lds]
    have row : ∀ (i : Nat) (v : V), xs[i]? = some v → i < c + 1 - m ∧ ∃ q, v = .ref q ∧ SqT K H7 q [V.int (((m : Nat) : Int) + (i : Nat)), V.int (wI (lw its (m + i))).sum] := fun i v hv => by
      obtain ⟨dd, hd, ht⟩ := hpa.at hv
      have hi : i < c + 1 - m := by rw [← lxs]; exact (List.getElem?_eq_some_iff.mp hv).1
      have e : (pairsT its m (c + 1 - m))[i]? = some (tD [((m + i : Nat) : Int), (wI (lw its (m + i))).sum]) := by
        unfold pairsT
        rw [List.getElem?_map, List.getElem?_range hi]; rfl
      rw [e] at hd
      cases hd
      obtain ⟨q, rfl, hq⟩ := Tp.toInts (ns := [((m + i : Nat) : Int), (wI (lw its (m + i))).sum]) ht
      exact ⟨hi, q, rfl, hq⟩
    refine lc_tup (xs := xs) (fun i H' => Grow K H7 D (pairsT its m (c + 1 - m)) i H') (.zero nD) (fun i H' _ h => Same.tup h.1 hpq) (fun i v H' hv h => ?_) (fun H' h => ?_)
    · obtain ⟨hi, qa, rfl, hqa⟩ := row i v hv
      have B := hm.best hk (d := m + i) (by omega)
      refine ⟨qa, _, rfl, Same.tup h.1 hqa, rfl, _, _, rfl, _, _, rfl, rfl, rfl, .int (((m : Nat) : Int) + (i : Nat)), rfl, .ref t, rfl, .int (((m : Nat) : Int) + (i : Nat)), rfl, t, its, m + i, rfl, (hF7.same h.1).sq, hk, n8, hst, by omega, by omega, B, fun H8 s e8 hs => ?_⟩
      refine ⟨s, _, rfl, hs, by show 2 ≤ sizeLine; omega, fun z nz => ?_⟩
      have ez := same_new (o := .tup [V.int (((m : Nat) : Int) + (i : Nat)), .int (wI (lw its (m + i))).sum]) nz
      obtain ⟨acc, k1, k2, k3⟩ := Grow.next (d := tD [((m + i : Nat) : Int), (wI (lw its (m + i))).sum]) (v := .ref z) nD (by rw [lds]; omega) h (e8.trans ez) (by unfold pairsT; rw [List.getElem?_map, List.getElem?_range hi]; rfl) (Tp.ofInts (ns := [((m + i : Nat) : Int), (wI (lw its (m + i))).sum]) (.of (by rw [upd_same]; rfl)))
      exact ⟨acc, k1, k2, k3⟩
    obtain ⟨e8, acc, h1, h2⟩ := h.done (by rw [lds]; exact lxs)
    refine ⟨D, acc, rfl, .inl ⟨.of h1, fun ut nut => ?_⟩⟩
    have eu := same_new (o := .tup acc) nut
    have hup : Tp K (upd H' ut (.tup acc)) (.ref ut) (.tuple (pairsT its m (c + 1 - m))) := Tp.new nut h2
    have e7u := e8.trans eu
    generalize upd H' ut (.tup acc) = HU at eu hup e7u ⊢
    have hpU := hp.stay (.of e7u)
    have hpqU := Same.tup e7u hpq
    have hFU := hF7.same e7u
    refine ⟨_, _, hpU.dp, hup.dp, by rw [pairsT_tDs]; exact shaped_tDs _, by rw [pairsT_tDs]; exact shaped_tDs _, ?_⟩
    rw [show PyData.eqv (.tuple (pairsT its m (c + 1 - m))) (.tuple (pairsT its m (c + 1 - m))) = true from by rw [pairsT_tDs, PyData.eqv, eqv_tDs, decide_eq_true rfl]]
    refine ⟨_, rfl, iteF ?_⟩
    obtain ⟨v0, hv0⟩ : ∃ v, xs[0]? = some v := ⟨_, List.getElem?_eq_getElem (by omega)⟩
    obtain ⟨_, q0, rfl, hq0⟩ := row 0 v0 hv0
    obtain ⟨vc, hvc⟩ : ∃ v, xs[c - m]? = some v := ⟨_, List.getElem?_eq_getElem (by omega)⟩
    obtain ⟨_, qc, rfl, hqc⟩ := row (c - m) vc hvc
    have atc : atI xs (-1) = some (.ref qc) := by
      unfold atI
      rw [lxs, ixN_end (by omega)]
      show xs[c + 1 - m - 1]? = _
      rw [show c + 1 - m - 1 = c - m from by omega]; exact hvc
    refine ⟨.ref pt, rfl, pt, xs, 0, .ref q0, rfl, rfl, hpqU, atI_nat (j := 0) hv0, q0, _, 0, _, rfl, rfl, Same.tup e7u hq0, atI0, .ref t, rfl, t, its, rfl, hFU, hk, fun H9 mj e9 hmj => ⟨rfl, ?_⟩⟩
    obtain rfl := hmj.uniq hm
    rw [show (!decide (V.int (((m : Nat) : Int) + ((0 : Nat) : Int)) = V.int ((m : Nat) : Int))) = false from by rw [decide_eq_true (show V.int (((m : Nat) : Int) + ((0 : Nat) : Int)) = V.int ((m : Nat) : Int) from congrArg V.int (by omega))]; rfl]
    refine ⟨_, rfl, iteF ?_⟩
    have eU9 := e7u.trans e9
    refine ⟨.ref pt, rfl, 1, rfl, pt, xs, -1, .ref qc, rfl, rfl, Same.tup eU9 hpq, atc, qc, _, 0, _, rfl, rfl, Same.tup eU9 hqc, atI0, .ref t, rfl, t, its, rfl, (hF7.same eU9).sq, hk, fun H10 ct e10 _ hct => ?_⟩
    obtain ⟨c', hc', hc0⟩ := lcd_first hk.pos
    obtain rfl := lcd_uniq hc hc'
    refine ⟨ct, _, rfl, .of hct, (fun z => by rw [z] at hc0; exact (nomatch hc0)), fun mn k1 k2 => ⟨rfl, ?_⟩⟩
    have k3 := k2 _ (List.mem_of_getElem? hc0)
    have k4 := constTo_items k1
    have k5 : (c : Int) ≤ mn := by
      refine Int.not_lt.mp fun z => ?_
      obtain ⟨d, rfl⟩ : ∃ d : Nat, mn = (d : Int) := ⟨mn.toNat, by omega⟩
      have := (constTo_mem.mp k1).2.2
      rw [c4 d (by omega) (by omega)] at this
      exact nomatch this
    obtain rfl : mn = (c : Int) := by omega
    rw [show (!decide (V.int (((m : Nat) : Int) + ((c - m : Nat) : Int)) = V.int (c : Int))) = false from by rw [decide_eq_true (show V.int (((m : Nat) : Int) + ((c - m : Nat) : Int)) = V.int (c : Int) from congrArg V.int (by omega))]; rfl]
    refine ⟨_, rfl, iteF ⟨_, _, _, _, _, rfl, ?_, ?_⟩⟩
    · exact p4.same (e5.trans (e6.trans (e7.trans (eU9.trans e10))))
    · exact e4.trans (e5.trans (e6.trans (e7.trans (eU9.trans e10))))
end
end Sg
set_option Elab.async false
set_option linter.all false
set_option maxRecDepth 100000
set_option maxHeartbeats 4000000
namespace Sg
open PySem PySem.Spec PyProof.Rows L2 StX
theorem all_mk {l : PySem.W.OpenLaw} {w : World} {K : PySem.W.Frag} {h : Heap} {mg : Str → Option Value} {fa fd0 fd1 fd2 fd3 fd4 fd5 fd6 fd7 fd8 fd9 fd10 fd11 fd12 fd13 fd14 fd15 fd16 fd17 fd18 fd19 fd20 fd21 fd22 fd23 fd24 fd25 fd26 fd27 fd28 fd29 fd30 fd31 fd32 fd33 fd34 fd35 fd36 fd37 fd38 fd39 fd40 C fm0 fm1 fm2 fm3 fm4 fm5 fm6 fm7 fm8 pp0 fp0 : Addr} {tu_NOWHERE tu_STATIONS tu_MOST_ITEMS tu_MOST_WORKS tu_MOST_STARTS tu_NOTHING tu_MOST_TICKS tu_MOST_DISTANCE tu_MOST_WAIT : Tok} {rsp0 : List Value} {fo ro : Option Value} {odd0 and0 odd1 and1 odd2 and2 odd3 and3 odd4 and4 odd5 and5 odd6 and6 odd7 and7 odd8 and8 odd9 and9 odd10 and10 odd11 and11 odd12 and12 odd13 and13 odd14 and14 odd15 and15 odd16 and16 odd17 and17 odd18 and18 odd19 and19 odd20 and20 odd21 and21 odd22 and22 odd23 and23 odd24 and24 odd25 and25 odd26 and26 odd27 and27 odd28 and28 odd29 and29 odd30 and30 odd31 and31 odd32 and32 odd33 and33 odd34 and34 odd35 and35 odd36 and36 odd37 and37 odd38 and38 odd39 and39 odd40 and40 odm0 anm0 odm1 anm1 odm2 anm2 odm3 anm3 odm4 anm4 odm5 anm5 odm6 anm6 odm7 anm7 odm8 anm8 odp0 anp0 : Option Addr} {sld0 sld1 sld2 sld3 sld4 sld5 sld6 sld7 sld8 sld9 sld10 sld11 sld12 sld13 sld14 sld15 sld16 sld17 sld18 sld19 sld20 sld21 sld22 sld23 sld24 sld25 sld26 sld27 sld28 sld29 sld30 sld31 sld32 sld33 sld34 sld35 sld36 sld37 sld38 sld39 sld40 slm0 slm1 slm2 slm3 slm4 slm5 slm6 slm7 slm8 slp0 : Array (Option Value)} {ocd0 kVd0 dcd0 pmd0 cdd0 ctd0 ocd1 kVd1 dcd1 pmd1 cdd1 ctd1 ocd2 kVd2 dcd2 pmd2 cdd2 ctd2 ocd3 kVd3 dcd3 pmd3 cdd3 ctd3 ocd4 kVd4 dcd4 pmd4 cdd4 ctd4 ocd5 kVd5 dcd5 pmd5 cdd5 ctd5 ocd6 kVd6 dcd6 pmd6 cdd6 ctd6 ocd7 kVd7 dcd7 pmd7 cdd7 ctd7 ocd8 kVd8 dcd8 pmd8 cdd8 ctd8 ocd9 kVd9 dcd9 pmd9 cdd9 ctd9 ocd10 kVd10 dcd10 pmd10 cdd10 ctd10 ocd11 kVd11 dcd11 pmd11 cdd11 ctd11 ocd12 kVd12 dcd12 pmd12 cdd12 ctd12 ocd13 kVd13 dcd13 pmd13 cdd13 ctd13 ocd14 kVd14 dcd14 pmd14 cdd14 ctd14 ocd15 kVd15 dcd15 pmd15 cdd15 ctd15 ocd16 kVd16 dcd16 pmd16 cdd16 ctd16 ocd17 kVd17 dcd17 pmd17 cdd17 ctd17 ocd18 kVd18 dcd18 pmd18 cdd18 ctd18 ocd19 kVd19 dcd19 pmd19 cdd19 ctd19 ocd20 kVd20 dcd20 pmd20 cdd20 ctd20 ocd21 kVd21 dcd21 pmd21 cdd21 ctd21 ocd22 kVd22 dcd22 pmd22 cdd22 ctd22 ocd23 kVd23 dcd23 pmd23 cdd23 ctd23 ocd24 kVd24 dcd24 pmd24 cdd24 ctd24 ocd25 kVd25 dcd25 pmd25 cdd25 ctd25 ocd26 kVd26 dcd26 pmd26 cdd26 ctd26 ocd27 kVd27 dcd27 pmd27 cdd27 ctd27 ocd28 kVd28 dcd28 pmd28 cdd28 ctd28 ocd29 kVd29 dcd29 pmd29 cdd29 ctd29 ocd30 kVd30 dcd30 pmd30 cdd30 ctd30 ocd31 kVd31 dcd31 pmd31 cdd31 ctd31 ocd32 kVd32 dcd32 pmd32 cdd32 ctd32 ocd33 kVd33 dcd33 pmd33 cdd33 ctd33 ocd34 kVd34 dcd34 pmd34 cdd34 ctd34 ocd35 kVd35 dcd35 pmd35 cdd35 ctd35 ocd36 kVd36 dcd36 pmd36 cdd36 ctd36 ocd37 kVd37 dcd37 pmd37 cdd37 ctd37 ocd38 kVd38 dcd38 pmd38 cdd38 ctd38 ocd39 kVd39 dcd39 pmd39 cdd39 ctd39 ocd40 kVd40 dcd40 pmd40 cdd40 ctd40 ocm0 kVm0 dcm0 pmm0 cdm0 ctm0 ocm1 kVm1 dcm1 pmm1 cdm1 ctm1 ocm2 kVm2 dcm2 pmm2 cdm2 ctm2 ocm3 kVm3 dcm3 pmm3 cdm3 ctm3 ocm4 kVm4 dcm4 pmm4 cdm4 ctm4 ocm5 kVm5 dcm5 pmm5 cdm5 ctm5 ocm6 kVm6 dcm6 pmm6 cdm6 ctm6 ocm7 kVm7 dcm7 pmm7 cdm7 ctm7 ocm8 kVm8 dcm8 pmm8 cdm8 ctm8 ocp0 kVp0 dcp0 pmp0 cdp0 ctp0 : Value} (X : K.In h) (G : h.Ns mainGlobals mg) (hfa : mg "law" = some (.ref fa))
    (ad0 : PySem.W.nsIn K mainGlobals "is_int" = some (some (.ref fd0)))
    (ld0 : K.lookup fd0 = some ⟨ocd0, odd0, .func (PySem.W.fnOf "is_int" "is_int" (defArgs s_is_int) (defBody s_is_int) (defScope s_is_int) .none kVd0 dcd0 pmd0 and0 cdd0 ctd0), sld0⟩)
    (cd0 : PySem.W.codeIn K cdd0 "is_int" = true)
    (kd0 : PySem.W.keepIn K (.ref fd0) = true)
    (ad1 : PySem.W.nsIn K mainGlobals "is_between" = some (some (.ref fd1)))
    (ld1 : K.lookup fd1 = some ⟨ocd1, odd1, .func (PySem.W.fnOf "is_between" "is_between" (defArgs s_is_between) (defBody s_is_between) (defScope s_is_between) .none kVd1 dcd1 pmd1 and1 cdd1 ctd1), sld1⟩)
    (cd1 : PySem.W.codeIn K cdd1 "is_between" = true)
    (kd1 : PySem.W.keepIn K (.ref fd1) = true)
    (ad2 : PySem.W.nsIn K mainGlobals "is_work" = some (some (.ref fd2)))
    (ld2 : K.lookup fd2 = some ⟨ocd2, odd2, .func (PySem.W.fnOf "is_work" "is_work" (defArgs s_is_work) (defBody s_is_work) (defScope s_is_work) .none kVd2 dcd2 pmd2 and2 cdd2 ctd2), sld2⟩)
    (cd2 : PySem.W.codeIn K cdd2 "is_work" = true)
    (kd2 : PySem.W.keepIn K (.ref fd2) = true)
    (ad3 : PySem.W.nsIn K mainGlobals "bars" = some (some (.ref fd3)))
    (ld3 : K.lookup fd3 = some ⟨ocd3, odd3, .func (PySem.W.fnOf "bars" "bars" (defArgs s_bars) (defBody s_bars) (defScope s_bars) .none kVd3 dcd3 pmd3 and3 cdd3 ctd3), sld3⟩)
    (cd3 : PySem.W.codeIn K cdd3 "bars" = true)
    (kd3 : PySem.W.keepIn K (.ref fd3) = true)
    (ad4 : PySem.W.nsIn K mainGlobals "most_visits" = some (some (.ref fd4)))
    (ld4 : K.lookup fd4 = some ⟨ocd4, odd4, .func (PySem.W.fnOf "most_visits" "most_visits" (defArgs s_most_visits) (defBody s_most_visits) (defScope s_most_visits) .none kVd4 dcd4 pmd4 and4 cdd4 ctd4), sld4⟩)
    (cd4 : PySem.W.codeIn K cdd4 "most_visits" = true)
    (kd4 : PySem.W.keepIn K (.ref fd4) = true)
    (ad5 : PySem.W.nsIn K mainGlobals "require_work" = some (some (.ref fd5)))
    (ld5 : K.lookup fd5 = some ⟨ocd5, odd5, .func (PySem.W.fnOf "require_work" "require_work" (defArgs s_require_work) (defBody s_require_work) (defScope s_require_work) .none kVd5 dcd5 pmd5 and5 cdd5 ctd5), sld5⟩)
    (cd5 : PySem.W.codeIn K cdd5 "require_work" = true)
    (kd5 : PySem.W.keepIn K (.ref fd5) = true)
    (ad6 : PySem.W.nsIn K mainGlobals "_clashes_behind" = some (some (.ref fd6)))
    (ld6 : K.lookup fd6 = some ⟨ocd6, odd6, .func (PySem.W.fnOf "_clashes_behind" "_clashes_behind" (defArgs s_clashes_behind) (defBody s_clashes_behind) (defScope s_clashes_behind) .none kVd6 dcd6 pmd6 and6 cdd6 ctd6), sld6⟩)
    (cd6 : PySem.W.codeIn K cdd6 "_clashes_behind" = true)
    (kd6 : PySem.W.keepIn K (.ref fd6) = true)
    (ad7 : PySem.W.nsIn K mainGlobals "is_kind" = some (some (.ref fd7)))
    (ld7 : K.lookup fd7 = some ⟨ocd7, odd7, .func (PySem.W.fnOf "is_kind" "is_kind" (defArgs s_is_kind) (defBody s_is_kind) (defScope s_is_kind) .none kVd7 dcd7 pmd7 and7 cdd7 ctd7), sld7⟩)
    (cd7 : PySem.W.codeIn K cdd7 "is_kind" = true)
    (kd7 : PySem.W.keepIn K (.ref fd7) = true)
    (ad8 : PySem.W.nsIn K mainGlobals "require_kind" = some (some (.ref fd8)))
    (ld8 : K.lookup fd8 = some ⟨ocd8, odd8, .func (PySem.W.fnOf "require_kind" "require_kind" (defArgs s_require_kind) (defBody s_require_kind) (defScope s_require_kind) .none kVd8 dcd8 pmd8 and8 cdd8 ctd8), sld8⟩)
    (cd8 : PySem.W.codeIn K cdd8 "require_kind" = true)
    (kd8 : PySem.W.keepIn K (.ref fd8) = true)
    (ad9 : PySem.W.nsIn K mainGlobals "_bars_of_all" = some (some (.ref fd9)))
    (ld9 : K.lookup fd9 = some ⟨ocd9, odd9, .func (PySem.W.fnOf "_bars_of_all" "_bars_of_all" (defArgs s_bars_of_all) (defBody s_bars_of_all) (defScope s_bars_of_all) .none kVd9 dcd9 pmd9 and9 cdd9 ctd9), sld9⟩)
    (cd9 : PySem.W.codeIn K cdd9 "_bars_of_all" = true)
    (kd9 : PySem.W.keepIn K (.ref fd9) = true)
    (ad10 : PySem.W.nsIn K mainGlobals "require_line" = some (some (.ref fd10)))
    (ld10 : K.lookup fd10 = some ⟨ocd10, odd10, .func (PySem.W.fnOf "require_line" "require_line" (defArgs s_require_line) (defBody s_require_line) (defScope s_require_line) .none kVd10 dcd10 pmd10 and10 cdd10 ctd10), sld10⟩)
    (cd10 : PySem.W.codeIn K cdd10 "require_line" = true)
    (kd10 : PySem.W.keepIn K (.ref fd10) = true)
    (ad11 : PySem.W.nsIn K mainGlobals "is_plan" = some (some (.ref fd11)))
    (ld11 : K.lookup fd11 = some ⟨ocd11, odd11, .func (PySem.W.fnOf "is_plan" "is_plan" (defArgs s_is_plan) (defBody s_is_plan) (defScope s_is_plan) .none kVd11 dcd11 pmd11 and11 cdd11 ctd11), sld11⟩)
    (cd11 : PySem.W.codeIn K cdd11 "is_plan" = true)
    (kd11 : PySem.W.keepIn K (.ref fd11) = true)
    (ad12 : PySem.W.nsIn K mainGlobals "clash" = some (some (.ref fd12)))
    (ld12 : K.lookup fd12 = some ⟨ocd12, odd12, .func (PySem.W.fnOf "clash" "clash" (defArgs s_clash) (defBody s_clash) (defScope s_clash) .none kVd12 dcd12 pmd12 and12 cdd12 ctd12), sld12⟩)
    (cd12 : PySem.W.codeIn K cdd12 "clash" = true)
    (kd12 : PySem.W.keepIn K (.ref fd12) = true)
    (ad13 : PySem.W.nsIn K mainGlobals "require_plan" = some (some (.ref fd13)))
    (ld13 : K.lookup fd13 = some ⟨ocd13, odd13, .func (PySem.W.fnOf "require_plan" "require_plan" (defArgs s_require_plan) (defBody s_require_plan) (defScope s_require_plan) .none kVd13 dcd13 pmd13 and13 cdd13 ctd13), sld13⟩)
    (cd13 : PySem.W.codeIn K cdd13 "require_plan" = true)
    (kd13 : PySem.W.keepIn K (.ref fd13) = true)
    (ad14 : PySem.W.nsIn K mainGlobals "_is_start" = some (some (.ref fd14)))
    (ld14 : K.lookup fd14 = some ⟨ocd14, odd14, .func (PySem.W.fnOf "_is_start" "_is_start" (defArgs s_is_start) (defBody s_is_start) (defScope s_is_start) .none kVd14 dcd14 pmd14 and14 cdd14 ctd14), sld14⟩)
    (cd14 : PySem.W.codeIn K cdd14 "_is_start" = true)
    (kd14 : PySem.W.keepIn K (.ref fd14) = true)
    (ad15 : PySem.W.nsIn K mainGlobals "_visits" = some (some (.ref fd15)))
    (ld15 : K.lookup fd15 = some ⟨ocd15, odd15, .func (PySem.W.fnOf "_visits" "_visits" (defArgs s_visits) (defBody s_visits) (defScope s_visits) .none kVd15 dcd15 pmd15 and15 cdd15 ctd15), sld15⟩)
    (cd15 : PySem.W.codeIn K cdd15 "_visits" = true)
    (kd15 : PySem.W.keepIn K (.ref fd15) = true)
    (ad16 : PySem.W.nsIn K mainGlobals "fits" = some (some (.ref fd16)))
    (ld16 : K.lookup fd16 = some ⟨ocd16, odd16, .func (PySem.W.fnOf "fits" "fits" (defArgs s_fits) (defBody s_fits) (defScope s_fits) .none kVd16 dcd16 pmd16 and16 cdd16 ctd16), sld16⟩)
    (cd16 : PySem.W.codeIn K cdd16 "fits" = true)
    (kd16 : PySem.W.keepIn K (.ref fd16) = true)
    (ad17 : PySem.W.nsIn K mainGlobals "is_lap" = some (some (.ref fd17)))
    (ld17 : K.lookup fd17 = some ⟨ocd17, odd17, .func (PySem.W.fnOf "is_lap" "is_lap" (defArgs s_is_lap) (defBody s_is_lap) (defScope s_is_lap) .none kVd17 dcd17 pmd17 and17 cdd17 ctd17), sld17⟩)
    (cd17 : PySem.W.codeIn K cdd17 "is_lap" = true)
    (kd17 : PySem.W.keepIn K (.ref fd17) = true)
    (ad18 : PySem.W.nsIn K mainGlobals "require_lap" = some (some (.ref fd18)))
    (ld18 : K.lookup fd18 = some ⟨ocd18, odd18, .func (PySem.W.fnOf "require_lap" "require_lap" (defArgs s_require_lap) (defBody s_require_lap) (defScope s_require_lap) .none kVd18 dcd18 pmd18 and18 cdd18 ctd18), sld18⟩)
    (cd18 : PySem.W.codeIn K cdd18 "require_lap" = true)
    (kd18 : PySem.W.keepIn K (.ref fd18) = true)
    (ad19 : PySem.W.nsIn K mainGlobals "_clashes" = some (some (.ref fd19)))
    (ld19 : K.lookup fd19 = some ⟨ocd19, odd19, .func (PySem.W.fnOf "_clashes" "_clashes" (defArgs s_clashes) (defBody s_clashes) (defScope s_clashes) .none kVd19 dcd19 pmd19 and19 cdd19 ctd19), sld19⟩)
    (cd19 : PySem.W.codeIn K cdd19 "_clashes" = true)
    (kd19 : PySem.W.keepIn K (.ref fd19) = true)
    (ad20 : PySem.W.nsIn K mainGlobals "constants" = some (some (.ref fd20)))
    (ld20 : K.lookup fd20 = some ⟨ocd20, odd20, .func (PySem.W.fnOf "constants" "constants" (defArgs s_constants) (defBody s_constants) (defScope s_constants) .none kVd20 dcd20 pmd20 and20 cdd20 ctd20), sld20⟩)
    (cd20 : PySem.W.codeIn K cdd20 "constants" = true)
    (kd20 : PySem.W.keepIn K (.ref fd20) = true)
    (ad21 : PySem.W.nsIn K mainGlobals "is_constant" = some (some (.ref fd21)))
    (ld21 : K.lookup fd21 = some ⟨ocd21, odd21, .func (PySem.W.fnOf "is_constant" "is_constant" (defArgs s_is_constant) (defBody s_is_constant) (defScope s_is_constant) .none kVd21 dcd21 pmd21 and21 cdd21 ctd21), sld21⟩)
    (cd21 : PySem.W.codeIn K cdd21 "is_constant" = true)
    (kd21 : PySem.W.keepIn K (.ref fd21) = true)
    (ad22 : PySem.W.nsIn K mainGlobals "stretched" = some (some (.ref fd22)))
    (ld22 : K.lookup fd22 = some ⟨ocd22, odd22, .func (PySem.W.fnOf "stretched" "stretched" (defArgs s_stretched) (defBody s_stretched) (defScope s_stretched) .none kVd22 dcd22 pmd22 and22 cdd22 ctd22), sld22⟩)
    (cd22 : PySem.W.codeIn K cdd22 "stretched" = true)
    (kd22 : PySem.W.keepIn K (.ref fd22) = true)
    (ad23 : PySem.W.nsIn K mainGlobals "stretch" = some (some (.ref fd23)))
    (ld23 : K.lookup fd23 = some ⟨ocd23, odd23, .func (PySem.W.fnOf "stretch" "stretch" (defArgs s_stretch) (defBody s_stretch) (defScope s_stretch) .none kVd23 dcd23 pmd23 and23 cdd23 ctd23), sld23⟩)
    (cd23 : PySem.W.codeIn K cdd23 "stretch" = true)
    (kd23 : PySem.W.keepIn K (.ref fd23) = true)
    (ad24 : PySem.W.nsIn K mainGlobals "shows_stretch" = some (some (.ref fd24)))
    (ld24 : K.lookup fd24 = some ⟨ocd24, odd24, .func (PySem.W.fnOf "shows_stretch" "shows_stretch" (defArgs s_shows_stretch) (defBody s_shows_stretch) (defScope s_shows_stretch) .none kVd24 dcd24 pmd24 and24 cdd24 ctd24), sld24⟩)
    (cd24 : PySem.W.codeIn K cdd24 "shows_stretch" = true)
    (kd24 : PySem.W.keepIn K (.ref fd24) = true)
    (ad25 : PySem.W.nsIn K mainGlobals "trade" = some (some (.ref fd25)))
    (ld25 : K.lookup fd25 = some ⟨ocd25, odd25, .func (PySem.W.fnOf "trade" "trade" (defArgs s_trade) (defBody s_trade) (defScope s_trade) .none kVd25 dcd25 pmd25 and25 cdd25 ctd25), sld25⟩)
    (cd25 : PySem.W.codeIn K cdd25 "trade" = true)
    (kd25 : PySem.W.keepIn K (.ref fd25) = true)
    (ad26 : PySem.W.nsIn K mainGlobals "_require_short" = some (some (.ref fd26)))
    (ld26 : K.lookup fd26 = some ⟨ocd26, odd26, .func (PySem.W.fnOf "_require_short" "_require_short" (defArgs s_require_short) (defBody s_require_short) (defScope s_require_short) .none kVd26 dcd26 pmd26 and26 cdd26 ctd26), sld26⟩)
    (cd26 : PySem.W.codeIn K cdd26 "_require_short" = true)
    (kd26 : PySem.W.keepIn K (.ref fd26) = true)
    (ad27 : PySem.W.nsIn K mainGlobals "_require_stretch" = some (some (.ref fd27)))
    (ld27 : K.lookup fd27 = some ⟨ocd27, odd27, .func (PySem.W.fnOf "_require_stretch" "_require_stretch" (defArgs s_require_stretch) (defBody s_require_stretch) (defScope s_require_stretch) .none kVd27 dcd27 pmd27 and27 cdd27 ctd27), sld27⟩)
    (cd27 : PySem.W.codeIn K cdd27 "_require_stretch" = true)
    (kd27 : PySem.W.keepIn K (.ref fd27) = true)
    (ad28 : PySem.W.nsIn K mainGlobals "_is_waits" = some (some (.ref fd28)))
    (ld28 : K.lookup fd28 = some ⟨ocd28, odd28, .func (PySem.W.fnOf "_is_waits" "_is_waits" (defArgs s_is_waits) (defBody s_is_waits) (defScope s_is_waits) .none kVd28 dcd28 pmd28 and28 cdd28 ctd28), sld28⟩)
    (cd28 : PySem.W.codeIn K cdd28 "_is_waits" = true)
    (kd28 : PySem.W.keepIn K (.ref fd28) = true)
    (ad29 : PySem.W.nsIn K mainGlobals "_put_in" = some (some (.ref fd29)))
    (ld29 : K.lookup fd29 = some ⟨ocd29, odd29, .func (PySem.W.fnOf "_put_in" "_put_in" (defArgs s_put_in) (defBody s_put_in) (defScope s_put_in) .none kVd29 dcd29 pmd29 and29 cdd29 ctd29), sld29⟩)
    (cd29 : PySem.W.codeIn K cdd29 "_put_in" = true)
    (kd29 : PySem.W.keepIn K (.ref fd29) = true)
    (ad30 : PySem.W.nsIn K mainGlobals "_least_waits" = some (some (.ref fd30)))
    (ld30 : K.lookup fd30 = some ⟨ocd30, odd30, .func (PySem.W.fnOf "_least_waits" "_least_waits" (defArgs s_least_waits) (defBody s_least_waits) (defScope s_least_waits) .none kVd30 dcd30 pmd30 and30 cdd30 ctd30), sld30⟩)
    (cd30 : PySem.W.codeIn K cdd30 "_least_waits" = true)
    (kd30 : PySem.W.keepIn K (.ref fd30) = true)
    (ad31 : PySem.W.nsIn K mainGlobals "_next_taken" = some (some (.ref fd31)))
    (ld31 : K.lookup fd31 = some ⟨ocd31, odd31, .func (PySem.W.fnOf "_next_taken" "_next_taken" (defArgs s_next_taken) (defBody s_next_taken) (defScope s_next_taken) .none kVd31 dcd31 pmd31 and31 cdd31 ctd31), sld31⟩)
    (cd31 : PySem.W.codeIn K cdd31 "_next_taken" = true)
    (kd31 : PySem.W.keepIn K (.ref fd31) = true)
    (ad32 : PySem.W.nsIn K mainGlobals "_needed_places" = some (some (.ref fd32)))
    (ld32 : K.lookup fd32 = some ⟨ocd32, odd32, .func (PySem.W.fnOf "_needed_places" "_needed_places" (defArgs s_needed_places) (defBody s_needed_places) (defScope s_needed_places) .none kVd32 dcd32 pmd32 and32 cdd32 ctd32), sld32⟩)
    (cd32 : PySem.W.codeIn K cdd32 "_needed_places" = true)
    (kd32 : PySem.W.keepIn K (.ref fd32) = true)
    (ad33 : PySem.W.nsIn K mainGlobals "_law_cell" = some (some (.ref fd33)))
    (ld33 : K.lookup fd33 = some ⟨ocd33, odd33, .func (PySem.W.fnOf "_law_cell" "_law_cell" (defArgs s_l_cell) (defBody s_l_cell) (defScope s_l_cell) .none kVd33 dcd33 pmd33 and33 cdd33 ctd33), sld33⟩)
    (cd33 : PySem.W.codeIn K cdd33 "_law_cell" = true)
    (kd33 : PySem.W.keepIn K (.ref fd33) = true)
    (ad34 : PySem.W.nsIn K mainGlobals "_law_pen" = some (some (.ref fd34)))
    (ld34 : K.lookup fd34 = some ⟨ocd34, odd34, .func (PySem.W.fnOf "_law_pen" "_law_pen" (defArgs s_l_pen) (defBody s_l_pen) (defScope s_l_pen) .none kVd34 dcd34 pmd34 and34 cdd34 ctd34), sld34⟩)
    (cd34 : PySem.W.codeIn K cdd34 "_law_pen" = true)
    (kd34 : PySem.W.keepIn K (.ref fd34) = true)
    (ad35 : PySem.W.nsIn K mainGlobals "_law_draw" = some (some (.ref fd35)))
    (ld35 : K.lookup fd35 = some ⟨ocd35, odd35, .func (PySem.W.fnOf "_law_draw" "_law_draw" (defArgs s_l_draw) (defBody s_l_draw) (defScope s_l_draw) .none kVd35 dcd35 pmd35 and35 cdd35 ctd35), sld35⟩)
    (cd35 : PySem.W.codeIn K cdd35 "_law_draw" = true)
    (kd35 : PySem.W.keepIn K (.ref fd35) = true)
    (ad36 : PySem.W.nsIn K mainGlobals "_law_pick" = some (some (.ref fd36)))
    (ld36 : K.lookup fd36 = some ⟨ocd36, odd36, .func (PySem.W.fnOf "_law_pick" "_law_pick" (defArgs s_l_pick) (defBody s_l_pick) (defScope s_l_pick) .none kVd36 dcd36 pmd36 and36 cdd36 ctd36), sld36⟩)
    (cd36 : PySem.W.codeIn K cdd36 "_law_pick" = true)
    (kd36 : PySem.W.keepIn K (.ref fd36) = true)
    (ad37 : PySem.W.nsIn K mainGlobals "_law_mixed" = some (some (.ref fd37)))
    (ld37 : K.lookup fd37 = some ⟨ocd37, odd37, .func (PySem.W.fnOf "_law_mixed" "_law_mixed" (defArgs s_l_mixed) (defBody s_l_mixed) (defScope s_l_mixed) .none kVd37 dcd37 pmd37 and37 cdd37 ctd37), sld37⟩)
    (cd37 : PySem.W.codeIn K cdd37 "_law_mixed" = true)
    (kd37 : PySem.W.keepIn K (.ref fd37) = true)
    (ad38 : PySem.W.nsIn K mainGlobals "_law_work" = some (some (.ref fd38)))
    (ld38 : K.lookup fd38 = some ⟨ocd38, odd38, .func (PySem.W.fnOf "_law_work" "_law_work" (defArgs s_l_work) (defBody s_l_work) (defScope s_l_work) .none kVd38 dcd38 pmd38 and38 cdd38 ctd38), sld38⟩)
    (cd38 : PySem.W.codeIn K cdd38 "_law_work" = true)
    (kd38 : PySem.W.keepIn K (.ref fd38) = true)
    (ad39 : PySem.W.nsIn K mainGlobals "_law_right" = some (some (.ref fd39)))
    (ld39 : K.lookup fd39 = some ⟨ocd39, odd39, .func (PySem.W.fnOf "_law_right" "_law_right" (defArgs s_l_right) (defBody s_l_right) (defScope s_l_right) .none kVd39 dcd39 pmd39 and39 cdd39 ctd39), sld39⟩)
    (cd39 : PySem.W.codeIn K cdd39 "_law_right" = true)
    (kd39 : PySem.W.keepIn K (.ref fd39) = true)
    (ad40 : PySem.W.nsIn K mainGlobals "law" = some (some (.ref fd40)))
    (ld40 : K.lookup fd40 = some ⟨ocd40, odd40, .func (PySem.W.fnOf "law" "law" (defArgs s_law) (defBody s_law) (defScope s_law) .none kVd40 dcd40 pmd40 and40 cdd40 ctd40), sld40⟩)
    (cd40 : PySem.W.codeIn K cdd40 "law" = true)
    (kd40 : PySem.W.keepIn K (.ref fd40) = true)
    (aC : PySem.W.nsIn K mainGlobals "Line" = some (some (.ref C)))
    (am0 : PySem.W.findIn K (.ref C) "__init__" = some (some (.ref fm0)))
    (im0 : PySem.W.isFn K (.ref fm0) = true)
    (lm0 : K.lookup fm0 = some ⟨ocm0, odm0, .func (PySem.W.fnOf "__init__" "Line.__init__" (defArgs s_Line_init) (defBody s_Line_init) (defScope s_Line_init) .none kVm0 dcm0 pmm0 anm0 cdm0 ctm0), slm0⟩)
    (cm0 : PySem.W.codeIn K cdm0 "Line.__init__" = true)
    (km0 : PySem.W.keepIn K (.ref fm0) = true)
    (am1 : PySem.W.findIn K (.ref C) "__len__" = some (some (.ref fm1)))
    (im1 : PySem.W.isFn K (.ref fm1) = true)
    (lm1 : K.lookup fm1 = some ⟨ocm1, odm1, .func (PySem.W.fnOf "__len__" "Line.__len__" (defArgs s_Line_len) (defBody s_Line_len) (defScope s_Line_len) .none kVm1 dcm1 pmm1 anm1 cdm1 ctm1), slm1⟩)
    (cm1 : PySem.W.codeIn K cdm1 "Line.__len__" = true)
    (km1 : PySem.W.keepIn K (.ref fm1) = true)
    (am2 : PySem.W.findIn K (.ref C) "__call__" = some (some (.ref fm2)))
    (im2 : PySem.W.isFn K (.ref fm2) = true)
    (lm2 : K.lookup fm2 = some ⟨ocm2, odm2, .func (PySem.W.fnOf "__call__" "Line.__call__" (defArgs s_Line_call) (defBody s_Line_call) (defScope s_Line_call) .none kVm2 dcm2 pmm2 anm2 cdm2 ctm2), slm2⟩)
    (cm2 : PySem.W.codeIn K cdm2 "Line.__call__" = true)
    (km2 : PySem.W.keepIn K (.ref fm2) = true)
    (am3 : PySem.W.findIn K (.ref C) "__add__" = some (some (.ref fm3)))
    (im3 : PySem.W.isFn K (.ref fm3) = true)
    (lm3 : K.lookup fm3 = some ⟨ocm3, odm3, .func (PySem.W.fnOf "__add__" "Line.__add__" (defArgs s_Line_add) (defBody s_Line_add) (defScope s_Line_add) .none kVm3 dcm3 pmm3 anm3 cdm3 ctm3), slm3⟩)
    (cm3 : PySem.W.codeIn K cdm3 "Line.__add__" = true)
    (km3 : PySem.W.keepIn K (.ref fm3) = true)
    (am4 : PySem.W.findIn K (.ref C) "__sub__" = some (some (.ref fm4)))
    (im4 : PySem.W.isFn K (.ref fm4) = true)
    (lm4 : K.lookup fm4 = some ⟨ocm4, odm4, .func (PySem.W.fnOf "__sub__" "Line.__sub__" (defArgs s_Line_sub) (defBody s_Line_sub) (defScope s_Line_sub) .none kVm4 dcm4 pmm4 anm4 cdm4 ctm4), slm4⟩)
    (cm4 : PySem.W.codeIn K cdm4 "Line.__sub__" = true)
    (km4 : PySem.W.keepIn K (.ref fm4) = true)
    (am5 : PySem.W.findIn K (.ref C) "__neg__" = some (some (.ref fm5)))
    (im5 : PySem.W.isFn K (.ref fm5) = true)
    (lm5 : K.lookup fm5 = some ⟨ocm5, odm5, .func (PySem.W.fnOf "__neg__" "Line.__neg__" (defArgs s_Line_neg) (defBody s_Line_neg) (defScope s_Line_neg) .none kVm5 dcm5 pmm5 anm5 cdm5 ctm5), slm5⟩)
    (cm5 : PySem.W.codeIn K cdm5 "Line.__neg__" = true)
    (km5 : PySem.W.keepIn K (.ref fm5) = true)
    (am6 : PySem.W.findIn K (.ref C) "__eq__" = some (some (.ref fm6)))
    (im6 : PySem.W.isFn K (.ref fm6) = true)
    (lm6 : K.lookup fm6 = some ⟨ocm6, odm6, .func (PySem.W.fnOf "__eq__" "Line.__eq__" (defArgs s_Line_eq) (defBody s_Line_eq) (defScope s_Line_eq) .none kVm6 dcm6 pmm6 anm6 cdm6 ctm6), slm6⟩)
    (cm6 : PySem.W.codeIn K cdm6 "Line.__eq__" = true)
    (km6 : PySem.W.keepIn K (.ref fm6) = true)
    (am7 : PySem.W.findIn K (.ref C) "__getitem__" = some (some (.ref fm7)))
    (im7 : PySem.W.isFn K (.ref fm7) = true)
    (lm7 : K.lookup fm7 = some ⟨ocm7, odm7, .func (PySem.W.fnOf "__getitem__" "Line.__getitem__" (defArgs s_Line_getitem) (defBody s_Line_getitem) (defScope s_Line_getitem) .none kVm7 dcm7 pmm7 anm7 cdm7 ctm7), slm7⟩)
    (cm7 : PySem.W.codeIn K cdm7 "Line.__getitem__" = true)
    (km7 : PySem.W.keepIn K (.ref fm7) = true)
    (am8 : PySem.W.findIn K (.ref C) "__repr__" = some (some (.ref fm8)))
    (im8 : PySem.W.isFn K (.ref fm8) = true)
    (lm8 : K.lookup fm8 = some ⟨ocm8, odm8, .func (PySem.W.fnOf "__repr__" "Line.__repr__" (defArgs s_Line_repr) (defBody s_Line_repr) (defScope s_Line_repr) .none kVm8 dcm8 pmm8 anm8 cdm8 ctm8), slm8⟩)
    (cm8 : PySem.W.codeIn K cdm8 "Line.__repr__" = true)
    (km8 : PySem.W.keepIn K (.ref fm8) = true)
    (ap0 : PySem.W.findIn K (.ref C) "works" = some (some (.ref pp0)))
    (gp0 : PySem.W.specialIn K (.ref pp0) "__get__" = some (some (.builtin "property.__get__")))
    (tp0 : PySem.W.takesIn K (.ref pp0) = some true)
    (rp0 : PySem.W.recIn K pp0 "property" = some (.ref fp0 :: rsp0))
    (lp0 : K.lookup fp0 = some ⟨ocp0, odp0, .func (PySem.W.fnOf "works" "Line.works" (defArgs s_Line_works) (defBody s_Line_works) (defScope s_Line_works) .none kVp0 dcp0 pmp0 anp0 cdp0 ctp0), slp0⟩)
    (cp0 : PySem.W.codeIn K cdp0 "Line.works" = true)
    (kp0 : PySem.W.keepIn K (.ref fp0) = true)
    (pg : PySem.W.plainGet K C Str.empty = true)
    (hd : PySem.W.hasDictIn K C = true)
    (po : PySem.W.plainOver K C = true)
    (sa : PySem.W.findIn K (.ref C) "__setattr__" = some (some (.builtin "object.__setattr__")))
    (mk : PySem.W.makesIn K C = true)
    (kc : PySem.W.keepIn K (.ref C) = true)
    (nW : PySem.W.findIn K (.ref C) "_works" = some none)
    (nB : PySem.W.findIn K (.ref C) "_bars" = some none)
    (nR : PySem.W.findIn K (.ref C) "_reach" = some none)
    (ha : PySem.W.findIn K (.ref C) "__class__" = some (some (.builtin "object.__class__")))
    (hn : PySem.W.specialIn K (.builtin "object.__class__") "__get__" = some (some (.builtin "getset_descriptor.__get__")))
    (ht : PySem.W.takesIn K (.builtin "object.__class__") = some true)
    (hm : PySem.W.mroIn K C (.type "object") = some true)
    (sf : PySem.W.selfFirst K C = true)
    (rs : PySem.W.findIn K (.ref C) "__rsub__" = some none)
    (is1 : PySem.W.findIn K (.type "int") "__sub__" = some fo)
    (ir1 : PySem.W.findIn K (.type "int") "__rsub__" = some ro)
    (nsub : PySem.W.subIn K (.type "int") (.ref C) = some false)
    (ne : PySem.W.findIn K (.ref C) "__ne__" = some (some (.builtin "object.__ne__")))
    (ob : PySem.W.subIn K (.ref C) (.type "object") = some true)
    (fi : PySem.W.fnIn K fm2 = true)
    (fg : PySem.W.fnIn K fm7 = true)
    (xpop : PySem.W.nsIn K mainGlobals "heappop" = some (some (.builtin "_heapq.heappop")))
    (xpush : PySem.W.nsIn K mainGlobals "heappush" = some (some (.builtin "_heapq.heappush")))
    (z_isinstance : PySem.W.nsIn K mainGlobals "isinstance" = some none)
    (z_int : PySem.W.nsIn K mainGlobals "int" = some none)
    (z_bool : PySem.W.nsIn K mainGlobals "bool" = some none)
    (z_tuple : PySem.W.nsIn K mainGlobals "tuple" = some none)
    (z_len : PySem.W.nsIn K mainGlobals "len" = some none)
    (z_all : PySem.W.nsIn K mainGlobals "all" = some none)
    (z_any : PySem.W.nsIn K mainGlobals "any" = some none)
    (z_zip : PySem.W.nsIn K mainGlobals "zip" = some none)
    (z_range : PySem.W.nsIn K mainGlobals "range" = some none)
    (z_max : PySem.W.nsIn K mainGlobals "max" = some none)
    (z_min : PySem.W.nsIn K mainGlobals "min" = some none)
    (z_enumerate : PySem.W.nsIn K mainGlobals "enumerate" = some none)
    (z_sorted : PySem.W.nsIn K mainGlobals "sorted" = some none)
    (z_set : PySem.W.nsIn K mainGlobals "set" = some none)
    (z_list : PySem.W.nsIn K mainGlobals "list" = some none)
    (z_sum : PySem.W.nsIn K mainGlobals "sum" = some none)
    (u_NOWHERE : PySem.W.nsIn K mainGlobals "NOWHERE" = some (some (.int (-1) tu_NOWHERE)))
    (u_STATIONS : PySem.W.nsIn K mainGlobals "STATIONS" = some (some (.int (10) tu_STATIONS)))
    (u_MOST_ITEMS : PySem.W.nsIn K mainGlobals "MOST_ITEMS" = some (some (.int (60) tu_MOST_ITEMS)))
    (u_MOST_WORKS : PySem.W.nsIn K mainGlobals "MOST_WORKS" = some (some (.int (3) tu_MOST_WORKS)))
    (u_MOST_STARTS : PySem.W.nsIn K mainGlobals "MOST_STARTS" = some (some (.int (60) tu_MOST_STARTS)))
    (u_NOTHING : PySem.W.nsIn K mainGlobals "NOTHING" = some (some (.int (-1) tu_NOTHING)))
    (u_MOST_TICKS : PySem.W.nsIn K mainGlobals "MOST_TICKS" = some (some (.int (12) tu_MOST_TICKS)))
    (u_MOST_DISTANCE : PySem.W.nsIn K mainGlobals "MOST_DISTANCE" = some (some (.int (12) tu_MOST_DISTANCE)))
    (u_MOST_WAIT : PySem.W.nsIn K mainGlobals "MOST_WAIT" = some (some (.int (11) tu_MOST_WAIT))) :
    ∃ fd : FuncData, (∀ (s : Shared) (v : Value), BindsTo s fd ⟨[v], []⟩ [("_law_script", v)]) ∧ ∀ base : Heap, K.In base → base.Ns mainGlobals mg → FnG l.prog w K mg base 18 fa fd ["_law_script"] (spLaw K) := by
  have e := hfa.symm.trans (PySem.W.mg_of X G ad40)
  cases e
  have y_isinstance := PySem.W.mg_none_of X G z_isinstance
  have y_int := PySem.W.mg_none_of X G z_int
  have y_bool := PySem.W.mg_none_of X G z_bool
  have y_tuple := PySem.W.mg_none_of X G z_tuple
  have y_len := PySem.W.mg_none_of X G z_len
  have y_all := PySem.W.mg_none_of X G z_all
  have y_any := PySem.W.mg_none_of X G z_any
  have y_zip := PySem.W.mg_none_of X G z_zip
  have y_range := PySem.W.mg_none_of X G z_range
  have y_max := PySem.W.mg_none_of X G z_max
  have y_min := PySem.W.mg_none_of X G z_min
  have y_enumerate := PySem.W.mg_none_of X G z_enumerate
  have y_sorted := PySem.W.mg_none_of X G z_sorted
  have y_set := PySem.W.mg_none_of X G z_set
  have y_list := PySem.W.mg_none_of X G z_list
  have y_sum := PySem.W.mg_none_of X G z_sum
  have Fd0 := fun_mk (st := s_is_int) ld0 cd0 kd0
  have bd0 := Fd0.binds (ps := ["thing"]) fun _ _ _ _ _ _ us hl => match us, hl with | [_], _ => rfl
  have vd0 := PySem.W.mg_of X G ad0
  have Fd1 := fun_mk (st := s_is_between) ld1 cd1 kd1
  have bd1 := Fd1.binds (ps := ["thing", "least", "most"]) fun _ _ _ _ _ _ us hl => match us, hl with | [_, _, _], _ => rfl
  have vd1 := PySem.W.mg_of X G ad1
  have Fd2 := fun_mk (st := s_is_work) ld2 cd2 kd2
  have bd2 := Fd2.binds (ps := ["thing"]) fun _ _ _ _ _ _ us hl => match us, hl with | [_], _ => rfl
  have vd2 := PySem.W.mg_of X G ad2
  have Fd3 := fun_mk (st := s_bars) ld3 cd3 kd3
  have bd3 := Fd3.binds (ps := ["one", "other"]) fun _ _ _ _ _ _ us hl => match us, hl with | [_, _], _ => rfl
  have vd3 := PySem.W.mg_of X G ad3
  have Fd4 := fun_mk (st := s_most_visits) ld4 cd4 kd4
  have bd4 := Fd4.binds (ps := ["work"]) fun _ _ _ _ _ _ us hl => match us, hl with | [_], _ => rfl
  have vd4 := PySem.W.mg_of X G ad4
  have Fd5 := fun_mk (st := s_require_work) ld5 cd5 kd5
  have bd5 := Fd5.binds (ps := ["thing"]) fun _ _ _ _ _ _ us hl => match us, hl with | [_], _ => rfl
  have vd5 := PySem.W.mg_of X G ad5
  have Fd6 := fun_mk (st := s_clashes_behind) ld6 cd6 kd6
  have bd6 := Fd6.binds (ps := ["one", "other", "distance"]) fun _ _ _ _ _ _ us hl => match us, hl with | [_, _, _], _ => rfl
  have vd6 := PySem.W.mg_of X G ad6
  have Fd7 := fun_mk (st := s_is_kind) ld7 cd7 kd7
  have bd7 := Fd7.binds (ps := ["line", "thing"]) fun _ _ _ _ _ _ us hl => match us, hl with | [_, _], _ => rfl
  have vd7 := PySem.W.mg_of X G ad7
  have Fd8 := fun_mk (st := s_require_kind) ld8 cd8 kd8
  have bd8 := Fd8.binds (ps := ["line", "thing"]) fun _ _ _ _ _ _ us hl => match us, hl with | [_, _], _ => rfl
  have vd8 := PySem.W.mg_of X G ad8
  have Fd9 := fun_mk (st := s_bars_of_all) ld9 cd9 kd9
  have bd9 := Fd9.binds (ps := ["works"]) fun _ _ _ _ _ _ us hl => match us, hl with | [_], _ => rfl
  have vd9 := PySem.W.mg_of X G ad9
  have Fd10 := fun_mk (st := s_require_line) ld10 cd10 kd10
  have bd10 := Fd10.binds (ps := ["thing"]) fun _ _ _ _ _ _ us hl => match us, hl with | [_], _ => rfl
  have vd10 := PySem.W.mg_of X G ad10
  have Fd11 := fun_mk (st := s_is_plan) ld11 cd11 kd11
  have bd11 := Fd11.binds (ps := ["line", "thing"]) fun _ _ _ _ _ _ us hl => match us, hl with | [_, _], _ => rfl
  have vd11 := PySem.W.mg_of X G ad11
  have Fd12 := fun_mk (st := s_clash) ld12 cd12 kd12
  have bd12 := Fd12.binds (ps := ["line", "plan"]) fun _ _ _ _ _ _ us hl => match us, hl with | [_, _], _ => rfl
  have vd12 := PySem.W.mg_of X G ad12
  have Fd13 := fun_mk (st := s_require_plan) ld13 cd13 kd13
  have bd13 := Fd13.binds (ps := ["line", "thing"]) fun _ _ _ _ _ _ us hl => match us, hl with | [_, _], _ => rfl
  have vd13 := PySem.W.mg_of X G ad13
  have Fd14 := fun_mk (st := s_is_start) ld14 cd14 kd14
  have bd14 := Fd14.binds (ps := ["line", "thing", "least"]) fun _ _ _ _ _ _ us hl => match us, hl with | [_, _, _], _ => rfl
  have vd14 := PySem.W.mg_of X G ad14
  have Fd15 := fun_mk (st := s_visits) ld15 cd15 kd15
  have bd15 := Fd15.binds (ps := ["line", "plan"]) fun _ _ _ _ _ _ us hl => match us, hl with | [_, _], _ => rfl
  have vd15 := PySem.W.mg_of X G ad15
  have Fd16 := fun_mk (st := s_fits) ld16 cd16 kd16
  have bd16 := Fd16.binds (ps := ["line", "lap"]) fun _ _ _ _ _ _ us hl => match us, hl with | [_, _], _ => rfl
  have vd16 := PySem.W.mg_of X G ad16
  have Fd17 := fun_mk (st := s_is_lap) ld17 cd17 kd17
  have bd17 := Fd17.binds (ps := ["line", "thing"]) fun _ _ _ _ _ _ us hl => match us, hl with | [_, _], _ => rfl
  have vd17 := PySem.W.mg_of X G ad17
  have Fd18 := fun_mk (st := s_require_lap) ld18 cd18 kd18
  have bd18 := Fd18.binds (ps := ["line", "thing"]) fun _ _ _ _ _ _ us hl => match us, hl with | [_, _], _ => rfl
  have vd18 := PySem.W.mg_of X G ad18
  have Fd19 := fun_mk (st := s_clashes) ld19 cd19 kd19
  have bd19 := Fd19.binds (ps := ["line", "lap", "tick"]) fun _ _ _ _ _ _ us hl => match us, hl with | [_, _, _], _ => rfl
  have vd19 := PySem.W.mg_of X G ad19
  have Fd20 := fun_mk (st := s_constants) ld20 cd20 kd20
  have bd20 := Fd20.binds (ps := ["work"]) fun _ _ _ _ _ _ us hl => match us, hl with | [_], _ => rfl
  have vd20 := PySem.W.mg_of X G ad20
  have Fd21 := fun_mk (st := s_is_constant) ld21 cd21 kd21
  have bd21 := Fd21.binds (ps := ["items", "distance"]) fun _ _ _ _ _ _ us hl => match us, hl with | [_, _], _ => rfl
  have vd21 := PySem.W.mg_of X G ad21
  have Fd22 := fun_mk (st := s_stretched) ld22 cd22 kd22
  have bd22 := Fd22.binds (ps := ["work", "waits"]) fun _ _ _ _ _ _ us hl => match us, hl with | [_, _], _ => rfl
  have vd22 := PySem.W.mg_of X G ad22
  have Fd23 := fun_mk (st := s_stretch) ld23 cd23 kd23
  have bd23 := Fd23.binds (ps := ["work", "distance"]) fun _ _ _ _ _ _ us hl => match us, hl with | [_, _], _ => rfl
  have vd23 := PySem.W.mg_of X G ad23
  have Fd24 := fun_mk (st := s_shows_stretch) ld24 cd24 kd24
  have bd24 := Fd24.binds (ps := ["work", "distance", "thing"]) fun _ _ _ _ _ _ us hl => match us, hl with | [_, _, _], _ => rfl
  have vd24 := PySem.W.mg_of X G ad24
  have Fd25 := fun_mk (st := s_trade) ld25 cd25 kd25
  have bd25 := Fd25.binds (ps := ["work"]) fun _ _ _ _ _ _ us hl => match us, hl with | [_], _ => rfl
  have vd25 := PySem.W.mg_of X G ad25
  have Fd26 := fun_mk (st := s_require_short) ld26 cd26 kd26
  have bd26 := Fd26.binds (ps := ["work"]) fun _ _ _ _ _ _ us hl => match us, hl with | [_], _ => rfl
  have vd26 := PySem.W.mg_of X G ad26
  have Fd27 := fun_mk (st := s_require_stretch) ld27 cd27 kd27
  have bd27 := Fd27.binds (ps := ["work", "distance"]) fun _ _ _ _ _ _ us hl => match us, hl with | [_, _], _ => rfl
  have vd27 := PySem.W.mg_of X G ad27
  have Fd28 := fun_mk (st := s_is_waits) ld28 cd28 kd28
  have bd28 := Fd28.binds (ps := ["work", "thing"]) fun _ _ _ _ _ _ us hl => match us, hl with | [_, _], _ => rfl
  have vd28 := PySem.W.mg_of X G ad28
  have Fd29 := fun_mk (st := s_put_in) ld29 cd29 kd29
  have bd29 := Fd29.binds (ps := ["work", "waits"]) fun _ _ _ _ _ _ us hl => match us, hl with | [_, _], _ => rfl
  have vd29 := PySem.W.mg_of X G ad29
  have Fd30 := fun_mk (st := s_least_waits) ld30 cd30 kd30
  have bd30 := Fd30.binds (ps := ["work", "distance"]) fun _ _ _ _ _ _ us hl => match us, hl with | [_, _], _ => rfl
  have vd30 := PySem.W.mg_of X G ad30
  have Fd31 := fun_mk (st := s_next_taken) ld31 cd31 kd31
  have bd31 := Fd31.binds (ps := ["work", "distance", "at", "taken"]) fun _ _ _ _ _ _ us hl => match us, hl with | [_, _, _, _], _ => rfl
  have vd31 := PySem.W.mg_of X G ad31
  have Fd32 := fun_mk (st := s_needed_places) ld32 cd32 kd32
  have bd32 := Fd32.binds (ps := ["coming", "places"]) fun _ _ _ _ _ _ us hl => match us, hl with | [_, _], _ => rfl
  have vd32 := PySem.W.mg_of X G ad32
  have Fd33 := fun_mk (st := s_l_cell) ld33 cd33 kd33
  have bd33 := Fd33.binds (ps := ["_law_script", "_law_k"]) fun _ _ _ _ _ _ us hl => match us, hl with | [_, _], _ => rfl
  have vd33 := PySem.W.mg_of X G ad33
  have Fd34 := fun_mk (st := s_l_pen) ld34 cd34 kd34
  have bd34 := Fd34.binds (ps := ["_law_cell_here"]) fun _ _ _ _ _ _ us hl => match us, hl with | [_], _ => rfl
  have vd34 := PySem.W.mg_of X G ad34
  have Fd35 := fun_mk (st := s_l_draw) ld35 cd35 kd35
  have bd35 := Fd35.binds (ps := ["_law_pen_here", "_law_many"]) fun _ _ _ _ _ _ us hl => match us, hl with | [_, _], _ => rfl
  have vd35 := PySem.W.mg_of X G ad35
  have Fd36 := fun_mk (st := s_l_pick) ld36 cd36 kd36
  have bd36 := Fd36.binds (ps := ["_law_pen_here", "_law_values"]) fun _ _ _ _ _ _ us hl => match us, hl with | [_, _], _ => rfl
  have vd36 := PySem.W.mg_of X G ad36
  have Fd37 := fun_mk (st := s_l_mixed) ld37 cd37 kd37
  have bd37 := Fd37.binds (ps := ["_law_pen_here", "_law_values"]) fun _ _ _ _ _ _ us hl => match us, hl with | [_, _], _ => rfl
  have vd37 := PySem.W.mg_of X G ad37
  have Fd38 := fun_mk (st := s_l_work) ld38 cd38 kd38
  have bd38 := Fd38.binds (ps := ["_law_pen_here", "_law_long", "_law_many"]) fun _ _ _ _ _ _ us hl => match us, hl with | [_, _, _], _ => rfl
  have vd38 := PySem.W.mg_of X G ad38
  have Fd39 := fun_mk (st := s_l_right) ld39 cd39 kd39
  have bd39 := Fd39.binds (ps := ["_law_items", "_law_distance"]) fun _ _ _ _ _ _ us hl => match us, hl with | [_, _], _ => rfl
  have vd39 := PySem.W.mg_of X G ad39
  have Fd40 := fun_mk (st := s_law) ld40 cd40 kd40
  have bd40 := Fd40.binds (ps := ["_law_script"]) fun _ _ _ _ _ _ us hl => match us, hl with | [_], _ => rfl
  have vd40 := PySem.W.mg_of X G ad40
  have Fm0 := fun_mk (st := s_Line_init) lm0 cm0 km0
  have Fm1 := fun_mk (st := s_Line_len) lm1 cm1 km1
  have bm1 := Fm1.binds (ps := ["self"]) fun _ _ _ _ _ _ us hl => match us, hl with | [_], _ => rfl
  have Fm2 := fun_mk (st := s_Line_call) lm2 cm2 km2
  have bm2 := Fm2.binds (ps := ["self", "one", "other"]) fun _ _ _ _ _ _ us hl => match us, hl with | [_, _, _], _ => rfl
  have Fm3 := fun_mk (st := s_Line_add) lm3 cm3 km3
  have bm3 := Fm3.binds (ps := ["self", "other"]) fun _ _ _ _ _ _ us hl => match us, hl with | [_, _], _ => rfl
  have Fm4 := fun_mk (st := s_Line_sub) lm4 cm4 km4
  have bm4 := Fm4.binds (ps := ["self", "other"]) fun _ _ _ _ _ _ us hl => match us, hl with | [_, _], _ => rfl
  have Fm5 := fun_mk (st := s_Line_neg) lm5 cm5 km5
  have bm5 := Fm5.binds (ps := ["self"]) fun _ _ _ _ _ _ us hl => match us, hl with | [_], _ => rfl
  have Fm6 := fun_mk (st := s_Line_eq) lm6 cm6 km6
  have bm6 := Fm6.binds (ps := ["self", "other"]) fun _ _ _ _ _ _ us hl => match us, hl with | [_, _], _ => rfl
  have Fm7 := fun_mk (st := s_Line_getitem) lm7 cm7 km7
  have bm7 := Fm7.binds (ps := ["self", "at"]) fun _ _ _ _ _ _ us hl => match us, hl with | [_, _], _ => rfl
  have Fm8 := fun_mk (st := s_Line_repr) lm8 cm8 km8
  have bm8 := Fm8.binds (ps := ["self"]) fun _ _ _ _ _ _ us hl => match us, hl with | [_], _ => rfl
  have Fp0 := fun_mk (st := s_Line_works) lp0 cp0 kp0
  have bp0 := Fp0.binds (ps := ["self"]) fun _ _ _ _ _ _ us hl => match us, hl with | [_], _ => rfl
  have N_NOWHERE : ∃ t, mg "NOWHERE" = some (.int (-1) t) := ⟨_, PySem.W.mg_of X G u_NOWHERE⟩
  have N_STATIONS : ∃ t, mg "STATIONS" = some (.int (10) t) := ⟨_, PySem.W.mg_of X G u_STATIONS⟩
  have N_MOST_ITEMS : ∃ t, mg "MOST_ITEMS" = some (.int (60) t) := ⟨_, PySem.W.mg_of X G u_MOST_ITEMS⟩
  have N_MOST_WORKS : ∃ t, mg "MOST_WORKS" = some (.int (3) t) := ⟨_, PySem.W.mg_of X G u_MOST_WORKS⟩
  have N_MOST_STARTS : ∃ t, mg "MOST_STARTS" = some (.int (60) t) := ⟨_, PySem.W.mg_of X G u_MOST_STARTS⟩
  have N_NOTHING : ∃ t, mg "NOTHING" = some (.int (-1) t) := ⟨_, PySem.W.mg_of X G u_NOTHING⟩
  have N_MOST_TICKS : ∃ t, mg "MOST_TICKS" = some (.int (12) t) := ⟨_, PySem.W.mg_of X G u_MOST_TICKS⟩
  have N_MOST_DISTANCE : ∃ t, mg "MOST_DISTANCE" = some (.int (12) t) := ⟨_, PySem.W.mg_of X G u_MOST_DISTANCE⟩
  have N_MOST_WAIT : ∃ t, mg "MOST_WAIT" = some (.int (11) t) := ⟨_, PySem.W.mg_of X G u_MOST_WAIT⟩
  have cl : Cls K C := ⟨pg, hd, po, sa⟩
  have T : LC K mg C := ⟨cl, nW, nB, nR, PySem.W.mg_of X G aC⟩
  have kit : PySem.W.kitOne K (.ref C) (.ref C) = some true := by unfold PySem.W.kitOne; simp
  have I : LI K C := ⟨ha, hn, ht, hm, kit⟩
  have O : Ops K C := ⟨sf, ⟨none, rs, .inl rfl⟩, ⟨_, is1⟩, ⟨_, ir1⟩, nsub, ne, ob⟩
  have Mi : Mk K C fm0 := ⟨mk, am0, im0, kc⟩
  refine ⟨PySem.W.fnOf "law" "law" (defArgs s_law) (defBody s_law) (defScope s_law) .none kVd40 dcd40 pmd40 and40 cdd40 ctd40, fun s v => .of_eq rfl, fun base _ _ => ?_⟩
  have v_pop := PySem.W.mg_of X G xpop
  have v_push := PySem.W.mg_of X G xpush
  have Gd0 := ok_is_int (P := l.prog) (w := w) (mg := mg) (base := base) (k := 0) Fd0 y_isinstance y_int y_bool
  have Gd1 := ok_is_between (P := l.prog) (w := w) (mg := mg) (base := base) (k := 1) Fd1 (Gd0.mono (by decide)) kd0 bd0 vd0
  have N : Nums mg := ⟨N_NOWHERE, N_STATIONS, N_MOST_ITEMS⟩
  have Gd2 := ok_is_work (P := l.prog) (w := w) (mg := mg) (base := base) (k := 2) Fd2 N (Gd1.mono (by decide)) kd1 bd1 vd1 y_isinstance y_tuple y_len y_all
  have Gd5 := ok_require_work (P := l.prog) (w := w) (mg := mg) (base := base) (k := 3) Fd5 (Gd2.mono (by decide)) kd2 bd2 vd2
  have Gd6 := ok_clashes_behind (P := l.prog) (w := w) (mg := mg) (base := base) (k := 3) Fd6 N y_any y_zip
  have Gd3 := ok_bars (P := l.prog) (w := w) (mg := mg) (base := base) (k := 4) Fd3 Gd5 kd5 bd5 vd5 Gd6 kd6 bd6 vd6 y_tuple y_range y_len
  have Gd9 := ok_bars_of_all (P := l.prog) (w := w) (mg := mg) (base := base) (k := 5) Fd9 y_tuple Gd3 kd3 bd3 vd3
  have Gi := ok_init (P := l.prog) (w := w) (mg := mg) (base := base) (k := 6) Fm0 T N_MOST_WORKS (Gd2.mono (by decide)) kd2 bd2 vd2 Gd9 kd9 bd9 vd9 y_all y_len y_max
  have Glen := ok_len (P := l.prog) (w := w) (mg := mg) (base := base) (k := 1) Fm1 T y_len
  have Gd7 := ok_is_kind (P := l.prog) (w := w) (mg := mg) (base := base) (k := 2) Fd7 T y_len Gd1 kd1 bd1 vd1 Glen bm1 am1 im1
  have Gd8 := ok_require_kind (P := l.prog) (w := w) (mg := mg) (base := base) (k := 4) Fd8 Gd7 kd7 bd7 vd7
  have Gcall := ok_call (P := l.prog) (w := w) (mg := mg) (base := base) (k := 5) Fm2 T Gd8 kd8 bd8 vd8
  have Gadd := ok_add (P := l.prog) (w := w) (mg := mg) (base := base) (k := 7) Fm3 T I Mi Gi y_isinstance
  have Gsub := ok_sub (P := l.prog) (w := w) (mg := mg) (base := base) (k := 7) Fm4 T Mi Gi (Gd8.mono (by decide)) kd8 bd8 vd8 y_len
  have Gneg := ok_neg (P := l.prog) (w := w) (mg := mg) (base := base) (k := 7) Fm5 T Mi Gi
  have Geq := ok_eq (P := l.prog) (w := w) (mg := mg) (base := base) (k := 0) Fm6 T I y_isinstance
  have Gw := fn_getter (CX := CX0) (P := l.prog) (w := w) (mg := mg) (base := base) (k := 0) lp0 cp0 sc_Line_works rfl rfl cl nW
  have M : Meths l.prog w K mg base 10 C := ⟨T, I, O, ⟨_, _, Glen.mono (by decide), bm1, am1, im1⟩, ⟨_, _, ⟨Gcall.mono (by decide), bm2, am2, im2⟩, fi⟩, ⟨_, _, Gadd.mono (by decide), bm3, am3, im3⟩, ⟨_, _, Gsub.mono (by decide), bm4, am4, im4⟩, ⟨_, _, Gneg.mono (by decide), bm5, am5, im5⟩, ⟨_, _, Geq.mono (by decide), bm6, am6, im6⟩, ⟨_, _, _, ⟨ap0, gp0, tp0, _, rp0⟩, Gw.mono (by decide), bp0⟩, ⟨_, Mi, Gi.mono (by decide)⟩⟩
  have Gitem := ok_item (P := l.prog) (w := w) (mg := mg) (base := base) (k := 5) Fm7 T Gd8 kd8 bd8 vd8
  have Grepr := ok_repr (P := l.prog) (w := w) (mg := mg) (base := base) (k := 0) Fm8 T y_len
  have M2 : Meths2 l.prog w K mg base 10 C := ⟨M, ⟨_, _, ⟨Gitem.mono (by decide), bm7, am7, im7⟩, fg⟩, ⟨_, _, Grepr.mono (by decide), bm8, am8, im8⟩⟩
  have GIA := ok_is_intA (P := l.prog) (w := w) (mg := mg) (base := base) (k := 0) Fd0 y_isinstance y_int y_bool
  have GBA := ok_is_betweenA (P := l.prog) (w := w) (mg := mg) (base := base) (k := 1) Fd1 (GIA.mono (by decide)) kd0 bd0 vd0
  have Gd10 := ok_require_line (P := l.prog) (w := w) (mg := mg) (base := base) (k := 0) Fd10 T I y_isinstance
  have Gd14 := ok_is_start (P := l.prog) (w := w) (mg := mg) (base := base) (k := 4) Fd14 (Gd0.mono (by decide)) kd0 bd0 vd0 (Gd7.mono (by decide)) kd7 bd7 vd7 y_isinstance y_tuple y_len
  have Gd11 := ok_is_plan (P := l.prog) (w := w) (mg := mg) (base := base) (k := 5) Fd11 N_MOST_STARTS (Gd10.mono (by decide)) kd10 bd10 vd10 (Gd14.mono (by decide)) kd14 bd14 vd14 y_isinstance y_tuple y_len
  have Gd13 := ok_require_plan (P := l.prog) (w := w) (mg := mg) (base := base) (k := 6) Fd13 (Gd11.mono (by decide)) kd11 bd11 vd11
  have Gd15 := ok_visits (P := l.prog) (w := w) (mg := mg) (base := base) (k := 10) Fd15 M2 N y_enumerate
  have Gd12 := ok_clash (P := l.prog) (w := w) (mg := mg) (base := base) (k := 13) Fd12 (Gd13.mono (by decide)) kd13 bd13 vd13 (Gd15.mono (by decide)) kd15 bd15 vd15 y_len y_min
  have Gd17 := ok_is_lap (P := l.prog) (w := w) (mg := mg) (base := base) (k := 10) Fd17 M2 N_NOTHING (Gd1.mono (by decide)) kd1 bd1 vd1 y_isinstance y_tuple y_len y_all
  have Gd18 := ok_require_lap (P := l.prog) (w := w) (mg := mg) (base := base) (k := 13) Fd18 (Gd10.mono (by decide)) kd10 bd10 vd10 (Gd17.mono (by decide)) kd17 bd17 vd17
  have Gd19 := ok_clashes (P := l.prog) (w := w) (mg := mg) (base := base) (k := 10) Fd19 M2 N_NOTHING y_any y_range y_len
  have Gd16 := ok_fits (P := l.prog) (w := w) (mg := mg) (base := base) (k := 14) Fd16 (Gd18.mono (by decide)) kd18 bd18 vd18 (Gd19.mono (by decide)) kd19 bd19 vd19 y_any y_range y_len
  have Gd32 := ok_needed (P := l.prog) (w := w) (mg := mg) (base := base) (k := 0) Fd32 N_NOWHERE y_tuple y_sorted
  have Gd31 := ok_next (P := l.prog) (w := w) (mg := mg) (base := base) (k := 1) Fd31 (Gd32.mono (by decide)) kd32 bd32 vd32 y_range
  have Gd30 := ok_least (P := l.prog) (w := w) (mg := mg) (base := base) (k := 2) Fd30 (Gd31.mono (by decide)) kd31 bd31 vd31 v_pop v_push y_len
  have Gd26 := ok_short (P := l.prog) (w := w) (mg := mg) (base := base) (k := 4) Fd26 N_MOST_TICKS (Gd5.mono (by decide)) kd5 bd5 vd5 y_len
  have Gd27 := ok_req_stretch (P := l.prog) (w := w) (mg := mg) (base := base) (k := 5) Fd27 N_MOST_DISTANCE (Gd26.mono (by decide)) kd26 bd26 vd26 (GBA.mono (by decide)) kd1 bd1 vd1
  have Gd23 := ok_stretch (P := l.prog) (w := w) (mg := mg) (base := base) (k := 6) Fd23 (Gd27.mono (by decide)) kd27 bd27 vd27 (Gd30.mono (by decide)) kd30 bd30 vd30
  have Gd28 := ok_is_waits (P := l.prog) (w := w) (mg := mg) (base := base) (k := 2) Fd28 N_MOST_WAIT (Gd1.mono (by decide)) kd1 bd1 vd1 y_isinstance y_tuple y_len y_all
  have Gd29 := ok_put_in (P := l.prog) (w := w) (mg := mg) (base := base) (k := 0) Fd29 N_NOWHERE y_zip y_tuple
  have Gd22 := ok_stretched (P := l.prog) (w := w) (mg := mg) (base := base) (k := 5) Fd22 (Gd5.mono (by decide)) kd5 bd5 vd5 (Gd28.mono (by decide)) kd28 bd28 vd28 (Gd29.mono (by decide)) kd29 bd29 vd29
  have Gd21 := ok_is_constant (P := l.prog) (w := w) (mg := mg) (base := base) (k := 0) Fd21 N_NOWHERE y_enumerate y_len y_set
  have Gd24 := ok_shows (P := l.prog) (w := w) (mg := mg) (base := base) (k := 6) Fd24 (Gd27.mono (by decide)) kd27 bd27 vd27 (Gd28.mono (by decide)) kd28 bd28 vd28 (Gd29.mono (by decide)) kd29 bd29 vd29 (Gd21.mono (by decide)) kd21 bd21 vd21
  have Gd20 := ok_constants (P := l.prog) (w := w) (mg := mg) (base := base) (k := 4) Fd20 (Gd5.mono (by decide)) kd5 bd5 vd5 (Gd21.mono (by decide)) kd21 bd21 vd21 y_tuple y_range y_len
  have Gd4 := ok_most_visits (P := l.prog) (w := w) (mg := mg) (base := base) (k := 4) Fd4 N (Gd5.mono (by decide)) kd5 bd5 vd5 y_max y_range
  have Gd25 := ok_trade (P := l.prog) (w := w) (mg := mg) (base := base) (k := 5) Fd25 (Gd26.mono (by decide)) kd26 bd26 vd26 (Gd4.mono (by decide)) kd4 bd4 vd4 (Gd20.mono (by decide)) kd20 bd20 vd20 (Gd30.mono (by decide)) kd30 bd30 vd30 y_range y_tuple y_sum
  have Gd33 := ok_l_cell (P := l.prog) (w := w) (mg := mg) (base := base) (k := 0) Fd33 y_len
  have Gd34 := ok_l_pen (P := l.prog) (w := w) (mg := mg) (base := base) (k := 0) Fd34 y_max
  have Gd35 := ok_l_draw (P := l.prog) (w := w) (mg := mg) (base := base) (k := 0) Fd35
  have Gd36 := ok_pick (P := l.prog) (w := w) (mg := mg) (base := base) (k := 1) Fd36 (Gd35.mono (by decide)) kd35 bd35 vd35 y_len
  have Gd37 := ok_mixed (P := l.prog) (w := w) (mg := mg) (base := base) (k := 1) Fd37 (Gd35.mono (by decide)) kd35 bd35 vd35 y_list y_range y_len
  have Gd38 := ok_work (P := l.prog) (w := w) (mg := mg) (base := base) (k := 2) Fd38 (Gd35.mono (by decide)) kd35 bd35 vd35 (Gd36.mono (by decide)) kd36 bd36 vd36 (Gd37.mono (by decide)) kd37 bd37 vd37 y_range y_tuple y_list
  have Gd39 := ok_right (P := l.prog) (w := w) (mg := mg) (base := base) (k := 15) Fd39 T Mi (Gi.mono (by decide)) (Gd23.mono (by decide)) kd23 bd23 vd23 (Gd24.mono (by decide)) kd24 bd24 vd24 (Gd22.mono (by decide)) kd22 bd22 vd22 (Gd4.mono (by decide)) kd4 bd4 vd4 (Gd3.mono (by decide)) kd3 bd3 vd3 (Gd20.mono (by decide)) kd20 bd20 vd20 (Gd16.mono (by decide)) kd16 bd16 vd16 (Gd12.mono (by decide)) kd12 bd12 vd12 y_max y_len y_tuple y_range
  exact ok_law (P := l.prog) (w := w) (mg := mg) (base := base) (k := 17) Fd40 (Gd33.mono (by decide)) kd33 bd33 vd33 (Gd34.mono (by decide)) kd34 bd34 vd34 (Gd38.mono (by decide)) kd38 bd38 vd38 (Gd4.mono (by decide)) kd4 bd4 vd4 (Gd39.mono (by decide)) kd39 bd39 vd39 (Gd23.mono (by decide)) kd23 bd23 vd23 (Gd20.mono (by decide)) kd20 bd20 vd20 (Gd25.mono (by decide)) kd25 bd25 vd25 y_len y_range y_sum y_tuple y_max y_min
end Sg
set_option Elab.async false
set_option linter.all false
open PySem PySem.W PyProof.Rows
set_option maxRecDepth 100000 in
set_option maxHeartbeats 0 in
theorem PySem.Challenge.cw_startgaps_k47_whole_waits_make_a_distanc_holds : PySem.Challenge.rw_startgaps_k47_whole_waits_make_a_distanc.Holds := by
  w_on; o_law; k_head; (case hw => w_witness2)
  k_fill
  refine Sg.walk_law (l := PySem.Challenge.rw_startgaps_k47_whole_waits_make_a_distanc) (k := 18) (x := "_law_script") (sp := Sg.spLaw) rfl rfl ⟨rfl, by decide, by decide⟩ (fun w h Y => PySem.W.kIn_of Y) ?F (fun K H a ns hl _ hS => ⟨a, ns, rfl, hS, hl, fun _ => rfl⟩)
  case F =>
    intro w mg fa h KX G hmg
    refine' Sg.all_mk KX G hmg ?ad0 ?ld0 ?cd0 ?kd0 ?ad1 ?ld1 ?cd1 ?kd1 ?ad2 ?ld2 ?cd2 ?kd2 ?ad3 ?ld3 ?cd3 ?kd3 ?ad4 ?ld4 ?cd4 ?kd4 ?ad5 ?ld5 ?cd5 ?kd5 ?ad6 ?ld6 ?cd6 ?kd6 ?ad7 ?ld7 ?cd7 ?kd7 ?ad8 ?ld8 ?cd8 ?kd8 ?ad9 ?ld9 ?cd9 ?kd9 ?ad10 ?ld10 ?cd10 ?kd10 ?ad11 ?ld11 ?cd11 ?kd11 ?ad12 ?ld12 ?cd12 ?kd12 ?ad13 ?ld13 ?cd13 ?kd13 ?ad14 ?ld14 ?cd14 ?kd14 ?ad15 ?ld15 ?cd15 ?kd15 ?ad16 ?ld16 ?cd16 ?kd16 ?ad17 ?ld17 ?cd17 ?kd17 ?ad18 ?ld18 ?cd18 ?kd18 ?ad19 ?ld19 ?cd19 ?kd19 ?ad20 ?ld20 ?cd20 ?kd20 ?ad21 ?ld21 ?cd21 ?kd21 ?ad22 ?ld22 ?cd22 ?kd22 ?ad23 ?ld23 ?cd23 ?kd23 ?ad24 ?ld24 ?cd24 ?kd24 ?ad25 ?ld25 ?cd25 ?kd25 ?ad26 ?ld26 ?cd26 ?kd26 ?ad27 ?ld27 ?cd27 ?kd27 ?ad28 ?ld28 ?cd28 ?kd28 ?ad29 ?ld29 ?cd29 ?kd29 ?ad30 ?ld30 ?cd30 ?kd30 ?ad31 ?ld31 ?cd31 ?kd31 ?ad32 ?ld32 ?cd32 ?kd32 ?ad33 ?ld33 ?cd33 ?kd33 ?ad34 ?ld34 ?cd34 ?kd34 ?ad35 ?ld35 ?cd35 ?kd35 ?ad36 ?ld36 ?cd36 ?kd36 ?ad37 ?ld37 ?cd37 ?kd37 ?ad38 ?ld38 ?cd38 ?kd38 ?ad39 ?ld39 ?cd39 ?kd39 ?ad40 ?ld40 ?cd40 ?kd40 ?aC ?am0 ?im0 ?lm0 ?cm0 ?km0 ?am1 ?im1 ?lm1 ?cm1 ?km1 ?am2 ?im2 ?lm2 ?cm2 ?km2 ?am3 ?im3 ?lm3 ?cm3 ?km3 ?am4 ?im4 ?lm4 ?cm4 ?km4 ?am5 ?im5 ?lm5 ?cm5 ?km5 ?am6 ?im6 ?lm6 ?cm6 ?km6 ?am7 ?im7 ?lm7 ?cm7 ?km7 ?am8 ?im8 ?lm8 ?cm8 ?km8 ?ap0 ?gp0 ?tp0 ?rp0 ?lp0 ?cp0 ?kp0 ?pg ?hd ?po ?sa ?mk ?kc ?nW ?nB ?nR ?ha ?hn ?ht ?hm ?sf ?rs ?is1 ?ir1 ?nsub ?ne ?ob ?fi ?fg ?xpop ?xpush ?z_isinstance ?z_int ?z_bool ?z_tuple ?z_len ?z_all ?z_any ?z_zip ?z_range ?z_max ?z_min ?z_enumerate ?z_sorted ?z_set ?z_list ?z_sum ?u_NOWHERE ?u_STATIONS ?u_MOST_ITEMS ?u_MOST_WORKS ?u_MOST_STARTS ?u_NOTHING ?u_MOST_TICKS ?u_MOST_DISTANCE ?u_MOST_WAIT
    (case ad0 => k_is)
    (case ld0 => k_is)
    (case cd0 => k_is)
    (case kd0 => k_is)
    (case ad1 => k_is)
    (case ld1 => k_is)
    (case cd1 => k_is)
    (case kd1 => k_is)
    (case ad2 => k_is)
    (case ld2 => k_is)
    (case cd2 => k_is)
    (case kd2 => k_is)
    (case ad3 => k_is)
    (case ld3 => k_is)
    (case cd3 => k_is)
    (case kd3 => k_is)
    (case ad4 => k_is)
    (case ld4 => k_is)
    (case cd4 => k_is)
    (case kd4 => k_is)
    (case ad5 => k_is)
    (case ld5 => k_is)
    (case cd5 => k_is)
    (case kd5 => k_is)
    (case ad6 => k_is)
    (case ld6 => k_is)
    (case cd6 => k_is)
    (case kd6 => k_is)
    (case ad7 => k_is)
    (case ld7 => k_is)
    (case cd7 => k_is)
    (case kd7 => k_is)
    (case ad8 => k_is)
    (case ld8 => k_is)
    (case cd8 => k_is)
    (case kd8 => k_is)
    (case ad9 => k_is)
    (case ld9 => k_is)
    (case cd9 => k_is)
    (case kd9 => k_is)
    (case ad10 => k_is)
    (case ld10 => k_is)
    (case cd10 => k_is)
    (case kd10 => k_is)
    (case ad11 => k_is)
    (case ld11 => k_is)
    (case cd11 => k_is)
    (case kd11 => k_is)
    (case ad12 => k_is)
    (case ld12 => k_is)
    (case cd12 => k_is)
    (case kd12 => k_is)
    (case ad13 => k_is)
    (case ld13 => k_is)
    (case cd13 => k_is)
    (case kd13 => k_is)
    (case ad14 => k_is)
    (case ld14 => k_is)
    (case cd14 => k_is)
    (case kd14 => k_is)
    (case ad15 => k_is)
    (case ld15 => k_is)
    (case cd15 => k_is)
    (case kd15 => k_is)
    (case ad16 => k_is)
    (case ld16 => k_is)
    (case cd16 => k_is)
    (case kd16 => k_is)
    (case ad17 => k_is)
    (case ld17 => k_is)
    (case cd17 => k_is)
    (case kd17 => k_is)
    (case ad18 => k_is)
    (case ld18 => k_is)
    (case cd18 => k_is)
    (case kd18 => k_is)
    (case ad19 => k_is)
    (case ld19 => k_is)
    (case cd19 => k_is)
    (case kd19 => k_is)
    (case ad20 => k_is)
    (case ld20 => k_is)
    (case cd20 => k_is)
    (case kd20 => k_is)
    (case ad21 => k_is)
    (case ld21 => k_is)
    (case cd21 => k_is)
    (case kd21 => k_is)
    (case ad22 => k_is)
    (case ld22 => k_is)
    (case cd22 => k_is)
    (case kd22 => k_is)
    (case ad23 => k_is)
    (case ld23 => k_is)
    (case cd23 => k_is)
    (case kd23 => k_is)
    (case ad24 => k_is)
    (case ld24 => k_is)
    (case cd24 => k_is)
    (case kd24 => k_is)
    (case ad25 => k_is)
    (case ld25 => k_is)
    (case cd25 => k_is)
    (case kd25 => k_is)
    (case ad26 => k_is)
    (case ld26 => k_is)
    (case cd26 => k_is)
    (case kd26 => k_is)
    (case ad27 => k_is)
    (case ld27 => k_is)
    (case cd27 => k_is)
    (case kd27 => k_is)
    (case ad28 => k_is)
    (case ld28 => k_is)
    (case cd28 => k_is)
    (case kd28 => k_is)
    (case ad29 => k_is)
    (case ld29 => k_is)
    (case cd29 => k_is)
    (case kd29 => k_is)
    (case ad30 => k_is)
    (case ld30 => k_is)
    (case cd30 => k_is)
    (case kd30 => k_is)
    (case ad31 => k_is)
    (case ld31 => k_is)
    (case cd31 => k_is)
    (case kd31 => k_is)
    (case ad32 => k_is)
    (case ld32 => k_is)
    (case cd32 => k_is)
    (case kd32 => k_is)
    (case ad33 => k_is)
    (case ld33 => k_is)
    (case cd33 => k_is)
    (case kd33 => k_is)
    (case ad34 => k_is)
    (case ld34 => k_is)
    (case cd34 => k_is)
    (case kd34 => k_is)
    (case ad35 => k_is)
    (case ld35 => k_is)
    (case cd35 => k_is)
    (case kd35 => k_is)
    (case ad36 => k_is)
    (case ld36 => k_is)
    (case cd36 => k_is)
    (case kd36 => k_is)
    (case ad37 => k_is)
    (case ld37 => k_is)
    (case cd37 => k_is)
    (case kd37 => k_is)
    (case ad38 => k_is)
    (case ld38 => k_is)
    (case cd38 => k_is)
    (case kd38 => k_is)
    (case ad39 => k_is)
    (case ld39 => k_is)
    (case cd39 => k_is)
    (case kd39 => k_is)
    (case ad40 => k_is)
    (case ld40 => k_is)
    (case cd40 => k_is)
    (case kd40 => k_is)
    (case aC => k_is)
    (case am0 => k_is)
    (case im0 => k_is)
    (case lm0 => k_is)
    (case cm0 => k_is)
    (case km0 => k_is)
    (case am1 => k_is)
    (case im1 => k_is)
    (case lm1 => k_is)
    (case cm1 => k_is)
    (case km1 => k_is)
    (case am2 => k_is)
    (case im2 => k_is)
    (case lm2 => k_is)
    (case cm2 => k_is)
    (case km2 => k_is)
    (case am3 => k_is)
    (case im3 => k_is)
    (case lm3 => k_is)
    (case cm3 => k_is)
    (case km3 => k_is)
    (case am4 => k_is)
    (case im4 => k_is)
    (case lm4 => k_is)
    (case cm4 => k_is)
    (case km4 => k_is)
    (case am5 => k_is)
    (case im5 => k_is)
    (case lm5 => k_is)
    (case cm5 => k_is)
    (case km5 => k_is)
    (case am6 => k_is)
    (case im6 => k_is)
    (case lm6 => k_is)
    (case cm6 => k_is)
    (case km6 => k_is)
    (case am7 => k_is)
    (case im7 => k_is)
    (case lm7 => k_is)
    (case cm7 => k_is)
    (case km7 => k_is)
    (case am8 => k_is)
    (case im8 => k_is)
    (case lm8 => k_is)
    (case cm8 => k_is)
    (case km8 => k_is)
    (case ap0 => k_is)
    (case gp0 => k_is)
    (case tp0 => k_is)
    (case rp0 => k_is)
    (case lp0 => k_is)
    (case cp0 => k_is)
    (case kp0 => k_is)
    (case pg => k_is)
    (case hd => k_is)
    (case po => k_is)
    (case sa => k_is)
    (case mk => k_is)
    (case kc => k_is)
    (case nW => k_is)
    (case nB => k_is)
    (case nR => k_is)
    (case ha => k_is)
    (case hn => k_is)
    (case ht => k_is)
    (case hm => k_is)
    (case sf => k_is)
    (case rs => k_is)
    (case is1 => k_is)
    (case ir1 => k_is)
    (case nsub => k_is)
    (case ne => k_is)
    (case ob => k_is)
    (case fi => k_is)
    (case fg => k_is)
    (case xpop => k_is)
    (case xpush => k_is)
    (case z_isinstance => k_is)
    (case z_int => k_is)
    (case z_bool => k_is)
    (case z_tuple => k_is)
    (case z_len => k_is)
    (case z_all => k_is)
    (case z_any => k_is)
    (case z_zip => k_is)
    (case z_range => k_is)
    (case z_max => k_is)
    (case z_min => k_is)
    (case z_enumerate => k_is)
    (case z_sorted => k_is)
    (case z_set => k_is)
    (case z_list => k_is)
    (case z_sum => k_is)
    (case u_NOWHERE => k_is)
    (case u_STATIONS => k_is)
    (case u_MOST_ITEMS => k_is)
    (case u_MOST_WORKS => k_is)
    (case u_MOST_STARTS => k_is)
    (case u_NOTHING => k_is)
    (case u_MOST_TICKS => k_is)
    (case u_MOST_DISTANCE => k_is)
    (case u_MOST_WAIT => k_is)
