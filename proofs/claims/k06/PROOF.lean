import PyProof.Rows.All
import HandS.ForMost
import HandS.IsInst
import HandS.TupMul
import HandS.TupAny
import HandS.Walk
import HandS.Zip
import PyProof.ReprRoads
import PyProof.ReprBulk
import KE.GoesMore
import PyProof.EnumMake
import HandS.Star
import HandS.Property
import HandS.SortKw
import KE.KOpsOwn
import KE.DataMinMax
import PyProof.InstNe
import HandS.Style
import HandS.DictTup
import PyProof.DictMoreH
import HandS.Iter
import PyProof.Rows.RowBridgeK
import HandS.Wide
import PyProof.Rows.ReprShort
import PyProof.ReprLen
import HandS.Conv
import HandS.TupSets
import PyProof.P3Statements
import HandS.SetFor
import HandS.Strs
import HandS.Dict
import HandS.More
import HandS.Deep
import KE.KDictKeyed
import KE.SortKeyHeap
import HandS.EndTab
import KE.KNest
import PyProof.CallFns
import PyProof.StrOps2
import HandS.HotCalls
import HandS.ExcIs
import HandS.ExcOwn
import HandS.WordsExc
import KE.KTryMore
import PySem.Challenge.RW_startgaps_k06_lines_refuse
import HandS.FStr
import PyProof.ReprNest
import HandS.ExcInit
import KE.KExcIs
import HandS.ExcField
import PyProof.Rows.ReprOcc
import KE.OsRunLaw
set_option Elab.async false
set_option linter.all false
set_option maxRecDepth 100000
set_option maxHeartbeats 4000000
namespace Sg
open PySem PySem.Spec PyProof.Rows L2
/-! ## defs that may ask for a text of data: they run outside of every such text -/
/-- a promise that holds where no text of data is being made -/
structure FnG (P : Program) (w : World) (K : PySem.W.Frag) (mg : Str → Option Value) (base : Heap) (k : Nat) (f : Addr)
    (fd : FuncData) (ps : List Str) (sp : Sp) : Prop where
  arity : ∀ vs H Q, sp vs H Q E0 → vs.length = ps.length
  go : ∀ (A : Around) (outer : List Env) (s : Shared) (H : Hp) (args : Args) (us : List Value) (vs : List V) (Q : VK),
    A.guards = some [] → Room k A → Env0 P w K mg base A outer s H → BindsTo s fd args (ps.zip us) → Vals vs us →
    sp vs H Q E0 → codeAny (model P w) A (.call (.ref f) args) (CR CX0 outer P w H s Q E0) s
section
variable {P : Program} {w : World} {K : PySem.W.Frag} {mg : Str → Option Value} {base : Heap} {k : Nat} {f : Addr}
variable {fd : FuncData} {ps : List Str} {sp : Sp}
theorem FnG.of (F : FnOk P w K mg base CX0 k f fd ps sp) : FnG P w K mg base k f fd ps sp :=
  ⟨fun vs H Q h => F.len vs H Q E0 h, fun A outer s H args us vs Q _ hr e0 hb hv h =>
    F.run A outer s H args us vs Q E0 hr e0 hb hv h⟩
theorem FnG.mono {j : Nat} (F : FnG P w K mg base j f fd ps sp) (h : j ≤ k) : FnG P w K mg base k f fd ps sp :=
  ⟨F.arity, fun A outer s H args us vs Q hg hr => F.go A outer s H args us vs Q hg (hr.mono h)⟩
end
section
variable {X : Cx} {k : Nat} {f : Addr} {fd : FuncData} {ps : List Str} {sp : Sp} {dvs : List V} {ds : List Value}
variable {x : Str} {p pos : Pos} {e : Expr} {es : List Expr} {t : TA}
/-- f(a, ..) of such a def -/
theorem pe_callG (F : FnG X.prog X.w X.K X.mg X.base k f fd ps sp) (hgd : X.A.guards = some []) (hr : Room k X.A)
    (hg : Gl X x) (hm : X.mg x = some (.ref f)) (hk : PySem.W.keepIn X.K (.ref f) = true) (hb : Binds X.K fd ps [])
    (ha : PA X (e :: es) t) (hdb : (x == ("__debug__" : Str)) = false := by decide)
    (he : starEach (e :: es) X.env = (false, eval e X.env) :: starEach es X.env := by rfl)
    (hpl : (backTo pos (starEach es X.env)).any (·.1) = false := by rfl) :
    PE X (.Call (.Name x p) (e :: es) [] pos) (tCall sp [] E0 t) := by
  constructor
  intro pins s σ H Q I h
  refine wpAny_Call_Name_kw (ld_glob I hg hm (PySem.W.callWith_K (h₀ := X.base) I.ok.mod.kin hk ?_ he hpl) hdb)
  refine thn (ha.run pos pins s σ H _ I h) ?_
  rintro us s1 ⟨vs, H1, I1, r, q⟩
  refine ⟨I1.kIn, ?_⟩
  rw [List.append_nil] at q
  have hl : (us ++ []).length = ps.length := by rw [List.append_nil, ← r.length]; exact F.arity _ _ _ q
  have hbb := hb s1 us I1.kIn hl
  rw [List.append_nil] at hbb
  refine wpAny_call (codeAny_mono (F.go X.A X.stack s1 H1 ⟨us, []⟩ us vs Q hgd hr I1.env0 hbb r q) ?_)
  intro r' s' hq
  match r', hq with
  | .error _, hq => exact hq.elim
  | .ok (.ret _), hq => exact I1.after hq
  | .ok .next, hq => exact hq.elim
  | .ok .brk, hq => exact hq.elim
  | .ok .cont, hq => exact hq.elim
/-! ## repr of data -/
end
end Sg
set_option Elab.async false
set_option linter.all false
set_option maxRecDepth 100000
set_option maxHeartbeats 4000000
namespace Sg
open PySem PySem.Spec PyProof.Rows L2
/-! ## the law's own call -/
section
variable {P : Program} {w : World} {K : PySem.W.Frag} {mg mb : Str → Option Value} {k : Nat} {fa a : Addr}
variable {fd : FuncData} {x : Str} {sp : Sp} {s₁ : Shared} {vs : List Value} {ns : List Int}
/-- what is asked of the law's call -/
abbrev Ended (s₁ : Shared) : Result → Shared → Prop := fun r s' =>
  r = .ok (.ret (.bool true)) ∧ OldK s₁.heap s'.heap ∧ s'.os = s₁.os ∧ AllBare s'.gens
end
end Sg
set_option Elab.async false
set_option linter.all false
set_option maxRecDepth 100000
set_option maxHeartbeats 4000000
namespace PySem
open Sem (wp)
open AutoSeq1 (wpAny_loadPart')
end PySem
set_option Elab.async false
set_option linter.all false
set_option maxRecDepth 100000
set_option maxHeartbeats 4000000
namespace Sg
open PySem PySem.Spec PyProof.Rows L2
/-! ## [c for a in t for b in a for c in b], tuples all the way down -/
/-- slots that agree but for those of ws -/
def Ag (ws : List Nat) (σ σ' : L2.St) : Prop := σ'.length = σ.length ∧ ∀ j, j ∉ ws → σ'[j]? = σ[j]?
theorem Ag.refl (ws : List Nat) (σ : L2.St) : Ag ws σ σ := ⟨rfl, fun _ _ => rfl⟩
theorem Ag.trans {ws : List Nat} {a b c : L2.St} (h : Ag ws a b) (k : Ag ws b c) : Ag ws a c := ⟨k.1.trans h.1, fun j hj => (k.2 j hj).trans (h.2 j hj)⟩
theorem Ag.set {ws : List Nat} {σ : L2.St} {k : Nat} {v : Option V} (hk : k ∈ ws) : Ag ws σ (σ.set k v) := ⟨List.length_set, fun j hj => by
  rw [List.getElem?_set_ne]
  rintro rfl
  exact hj hk⟩
theorem Ag.mono {ws us : List Nat} {σ σ' : L2.St} (h : Ag ws σ σ') (k : ∀ j ∈ ws, j ∈ us) : Ag us σ σ' := ⟨h.1, fun j hj => h.2 j fun z => hj (k j z)⟩
/-- a turn of a loop of a comprehension without tests -/
def flatTurn (e : Expr) (d : Nat) (it D : Addr) (n : Str) (p pos : Pos) (bd : Sem Fin → Sem Fin) (env : Env) : Sem Fin :=
  standAt pos >>= fun _ => pyNext (.ref it) >>= fun r => match r with
    | none => pure (.done .next)
    | some v => letOwnedTupleGo (.Name n p) (.ref it) v >>= fun _ => assign (.Name n p) env v >>= fun _ =>
      bd (again (.compLoop e d (.ref it) (.ref D) env))
section
variable {Z : Cx} {elt : Expr} {gens : List Comprehension} {scope : Scope} {cpos p pos : Pos} {d k : Nat} {it D c : Addr} {n : Str} {bd : Sem Fin → Sem Fin}
variable {R : Result → Shared → Prop} {xs : List V} {pins : List (Addr × Obj)} {ws : List Nat}
theorem flat_loop (hxe : Z.xe = fun _ _ => False) (hcalm : Z.calm = true) (hN : Z.N.Nodup)
    (hturn : compTurn (.ListComp elt gens scope cpos) d (.ref it) (.ref D) Z.env = flatTurn (.ListComp elt gens scope cpos) d it D n p pos bd Z.env)
    (hk : Z.N[k]? = some n) (hloc : Loc Z.env.scope n) (hfn : Z.fn n = true ∨ Z.env.scope.names.lookup n = some .local) (hkw : k ∈ ws)
    (σ : L2.St) (G : Nat → Hp → Prop) (hG : ∀ i H, i ≤ xs.length → G i H → SqT Z.K H c xs) (hfp : ∀ H, H it = none → FpOk Z pins H it)
    (hbd : ∀ i x s σ' H, xs[i]? = some x → G i H → H it = none → Inv Z (pins ++ pinsAt [it] s.heap) σ' H s → σ'[k]? = some (some x) → Ag ws σ σ' →
      ∀ (kk : Sem Fin) (Qf : Fin → Shared → Prop) (Ef : Value → Shared → Prop),
        (∀ s' σ'' H', Inv Z (pins ++ pinsAt [it] s.heap) σ'' H' s' → Ag ws σ σ'' → G (i + 1) H' → wpAny (model Z.prog Z.w) Z.A kk Qf Ef s') → wpAny (model Z.prog Z.w) Z.A (bd kk) Qf Ef s)
    (hfin : ∀ s' σ' H', Inv Z pins σ' H' s' → Ag ws σ σ' → G xs.length H' → R (.ok .next) s')
    {s : Shared} {σ₀ : L2.St} {H₀ : Hp} (I₀ : Inv Z pins σ₀ H₀ s) (ag₀ : Ag ws σ σ₀) (g₀ : G 0 H₀) (n₀ : H₀ it = none) (st₀ : s.heap.IsTupleIter it c 0) :
    codeAny (model Z.prog Z.w) Z.A (.compLoop (.ListComp elt gens scope cpos) d (.ref it) (.ref D) Z.env) R s := by
  have T := turn_tuple (P := Z.prog) (w := Z.w) (K := Z.K) (tg := .Name n p) c it
  have hb1 : ∀ {H : Hp}, H it = none → ∀ b ∈ [it], FpOk Z pins H b := by
    intro H hn b hb
    rw [List.mem_singleton.mp hb]
    exact hfp H hn
  refine codeAny_loop rfl (fun m s' => ∃ i σ' H', Inv Z pins σ' H' s' ∧ Ag ws σ σ' ∧ G i H' ∧ H' it = none ∧ s'.heap.IsTupleIter it c i ∧ i ≤ xs.length ∧ m = xs.length - i) ?_ xs.length
    ⟨0, σ₀, H₀, I₀, ag₀, g₀, n₀, st₀, Nat.zero_le _, rfl⟩
  rintro m s1 ⟨i, σ1, H1, I1, ag1, g1, n1, st1, hi, rfl⟩
  show wpAny _ Z.A ((compTurn (.ListComp elt gens scope cpos) d (.ref it) (.ref D) Z.env).onRaise (fun x => do noteFrame x Z.env; theTreesLotGoes x)) _ _ s1
  refine wpAny_noted ?_
  rw [hturn]
  refine wpAny_bind (wpAny_standAt (wpAny_bind ?_))
  have hq := hG i H1 hi g1
  by_cases hlt : i < xs.length
  · have go := T.item Z rfl rfl rfl hcalm i pins s1 σ1 H1 (fun _ _ => False) I1 (hb1 n1) st1 ⟨xs, xs[i], hq, List.getElem?_eq_getElem hlt⟩
    refine thnF go ?_
    rintro r s2 ⟨u, rfl, h2⟩
    refine wpAny_bind (thnF h2 ?_)
    rintro _ s3 ⟨x, H3, I3, r3, ⟨eH, hy⟩, st3, n3⟩
    subst eH
    have hx : xs[i]? = some x := hy xs hq
    have n3' : H3 it = none := n3 it (List.mem_singleton.mpr rfl)
    have I3' := I3.pinned (hb1 n3') (T.obj _ _ st3)
    have ia := (pg_name (X := Z) (pos := p) hN hk hloc hfn).run _ s3 σ1 H3 x u (fun σ' H' => σ' = σ1.set k (some x) ∧ H' = H3) I3' r3 ⟨rfl, rfl⟩
    rw [hxe] at ia
    refine wpAny_bind (thnF ia ?_)
    rintro _ s4 ⟨σ4, H4, I4, rfl, rfl⟩
    obtain ⟨o, ho, hoc⟩ := T.obj _ _ st3 it (List.mem_singleton.mpr rfl)
    have pin4 := I4.pin (it, o) (List.mem_append_right _ (List.mem_append_right _ (mem_pinsAt (List.mem_singleton.mpr rfl) ho)))
    have ep : pinsAt [it] s3.heap = pinsAt [it] s4.heap := by
      unfold pinsAt
      rw [List.filterMap_cons, List.filterMap_cons, ho, pin4.1]
      rfl
    rw [ep] at I4
    have hσ4 : (σ1.set k (some x))[k]? = some (some x) := by
      have hkl : k < σ1.length := by rw [I1.len]; exact (List.getElem?_eq_some_iff.mp hk).1
      rw [List.getElem?_set_self hkl]
    refine hbd i x s4 _ _ hx g1 n3' I4 hσ4 (ag1.trans (Ag.set hkw)) _ _ _ ?_
    intro s5 σ5 H5 I5 ag5 g5
    have pin5 := I5.pin (it, o) (List.mem_append_right _ (List.mem_append_right _ (mem_pinsAt (List.mem_singleton.mpr rfl) pin4.1)))
    have st5 : s5.heap.IsTupleIter it c (i + 1) := T.keep _ _ _ st3 (by
      intro b hb o' e
      rw [List.mem_singleton.mp hb] at e ⊢
      rw [ho] at e
      rw [← Option.some.inj e]
      exact pin5.1)
    exact wpAny_pure ⟨rfl, xs.length - (i + 1), by omega, i + 1, σ5, H5, I5.unpinned, ag5, g5, pin5.2.1, st5, hlt, rfl⟩
  · have e : i = xs.length := by omega
    subst e
    have stop := T.done Z rfl rfl rfl hcalm xs.length pins s1 σ1 H1 (fun _ _ => False) I1 (hb1 n1) st1 ⟨xs, hq, Nat.le_refl _⟩
    refine thnF stop ?_
    rintro r s2 ⟨rfl, I2⟩
    exact wpAny_pure (hfin s2 σ1 H1 I2 ag1 g1)
end
/-! ### the three clauses -/
abbrev flatE (n1 n2 n3 : Str) (iter : Expr) (scope : Scope) (q1 q2 q3 a1 a2 a3 pos : Pos) : Expr :=
  .ListComp (.Name n3 a3) [⟨.Name n1 q1, iter, [], 0⟩, ⟨.Name n2 q2, .Name n1 a1, [], 0⟩, ⟨.Name n3 q3, .Name n2 a2, [], 0⟩] scope pos
section
variable {n1 n2 n3 : Str} {iter : Expr} {scope : Scope} {q1 q2 q3 a1 a2 a3 pos : Pos} {it D : Addr} {env : Env}
abbrev downBody (e i : Expr) (d : Nat) (D : Addr) (env : Env) (kk : Sem Fin) : Sem Fin := eval i env >>= fun x => standAt i.pos >>= fun _ =>
  foldedSetIterable i env x >>= fun x => holding [x] (pyIter x) >>= fun it' => runOwn (.compStart e d it' (.ref D) env) env >>= fun _ => kk
abbrev addBody (elt : Expr) (D : Addr) (env : Env) (kk : Sem Fin) : Sem Fin :=
  (eval elt env >>= fun x => call (.builtin "list.append") [.ref D, x] >>= fun _ => pure ()) >>= fun _ => kk
theorem flat_t0 : compTurn (flatE n1 n2 n3 iter scope q1 q2 q3 a1 a2 a3 pos) 0 (.ref it) (.ref D) env =
    flatTurn (flatE n1 n2 n3 iter scope q1 q2 q3 a1 a2 a3 pos) 0 it D n1 q1 iter.pos (downBody (flatE n1 n2 n3 iter scope q1 q2 q3 a1 a2 a3 pos) (.Name n1 a1) 1 D env) env := by rfl
theorem flat_t1 : compTurn (flatE n1 n2 n3 iter scope q1 q2 q3 a1 a2 a3 pos) 1 (.ref it) (.ref D) env =
    flatTurn (flatE n1 n2 n3 iter scope q1 q2 q3 a1 a2 a3 pos) 1 it D n2 q2 a1 (downBody (flatE n1 n2 n3 iter scope q1 q2 q3 a1 a2 a3 pos) (.Name n2 a2) 2 D env) env := by rfl
theorem flat_t2 : compTurn (flatE n1 n2 n3 iter scope q1 q2 q3 a1 a2 a3 pos) 2 (.ref it) (.ref D) env =
    flatTurn (flatE n1 n2 n3 iter scope q1 q2 q3 a1 a2 a3 pos) 2 it D n3 q3 a2 (addBody (.Name n3 a3) D env) env := by rfl
end
section
variable {prog : Program} {w : World} {A : Around} {R : Result → Shared → Prop} {s : Shared} {n1 n2 n3 : Str} {iter : Expr} {scope : Scope} {q1 q2 q3 a1 a2 a3 pos : Pos} {it acc : Value} {env : Env}
theorem flat_s1 (h0 : codeAny (model prog w) A (.compLoop (flatE n1 n2 n3 iter scope q1 q2 q3 a1 a2 a3 pos) 1 it acc env) R s)
    (h : wpAny (model prog w) A (pyIter it) (fun it' s' => codeAny (model prog w) A (.compLoop (flatE n1 n2 n3 iter scope q1 q2 q3 a1 a2 a3 pos) 1 it' acc env) R s') (notedBy (model prog w) A env fun x s' => R (.error x) s') s) :
    codeAny (model prog w) A (.compStart (flatE n1 n2 n3 iter scope q1 q2 q3 a1 a2 a3 pos) 1 it acc env) R s := by
  apply codeAny_of_tree
  show wpAny _ _ ((compStart (flatE n1 n2 n3 iter scope q1 q2 q3 a1 a2 a3 pos) 1 it acc env).onRaise (fun x => do noteFrame x env; standAt theWindowsPlace)) _ _ s
  apply wpAny_notedAt
  unfold compStart
  show wpAny _ _ (ask >>= _) _ _ s
  refine wpAny_bind (wpAny_askSetting (wpAny_ite ?_))
  split
  · first | exact wpAny_pure (And.intro rfl h0) | exact wpAny_bind (wpAny_pure (wpAny_pure (And.intro rfl h0)))
  · refine wpAny_bind (wpAny_rule ?_)
    show wpAny _ _ (standAt a1 >>= _) _ _ s
    exact wpAny_bind (wpAny_standAt (wpAny_bind (wpAny_mono h (fun it' s' h' => wpAny_pure (And.intro rfl h')) fun _ _ x => x)))
theorem flat_s2 (h0 : codeAny (model prog w) A (.compLoop (flatE n1 n2 n3 iter scope q1 q2 q3 a1 a2 a3 pos) 2 it acc env) R s)
    (h : wpAny (model prog w) A (pyIter it) (fun it' s' => codeAny (model prog w) A (.compLoop (flatE n1 n2 n3 iter scope q1 q2 q3 a1 a2 a3 pos) 2 it' acc env) R s') (notedBy (model prog w) A env fun x s' => R (.error x) s') s) :
    codeAny (model prog w) A (.compStart (flatE n1 n2 n3 iter scope q1 q2 q3 a1 a2 a3 pos) 2 it acc env) R s := by
  apply codeAny_of_tree
  show wpAny _ _ ((compStart (flatE n1 n2 n3 iter scope q1 q2 q3 a1 a2 a3 pos) 2 it acc env).onRaise (fun x => do noteFrame x env; standAt theWindowsPlace)) _ _ s
  apply wpAny_notedAt
  unfold compStart
  show wpAny _ _ (ask >>= _) _ _ s
  refine wpAny_bind (wpAny_askSetting (wpAny_ite ?_))
  split
  · first | exact wpAny_pure (And.intro rfl h0) | exact wpAny_bind (wpAny_pure (wpAny_pure (And.intro rfl h0)))
  · refine wpAny_bind (wpAny_rule ?_)
    show wpAny _ _ (standAt a2 >>= _) _ _ s
    exact wpAny_bind (wpAny_standAt (wpAny_bind (wpAny_mono h (fun it' s' h' => wpAny_pure (And.intro rfl h')) fun _ _ x => x)))
end
end Sg
set_option Elab.async false
set_option linter.all false
set_option maxRecDepth 100000
set_option maxHeartbeats 4000000
namespace Sg
open PySem PySem.Spec PyProof.Rows L2
/-- cells are tuples; xs are all their items -/
inductive FlatL (K : PySem.W.Frag) (H : Hp) : List V → List V → Prop
  | nil : FlatL K H [] []
  | cons {a : Addr} {ys cells xs : List V} : SqT K H a ys → FlatL K H cells xs → FlatL K H (.ref a :: cells) (ys ++ xs)
/-- rows are tuples of tuples; xs are all the items of these -/
inductive FlatR (K : PySem.W.Frag) (H : Hp) : List V → List V → Prop
  | nil : FlatR K H [] []
  | cons {a : Addr} {cells ys rows xs : List V} : SqT K H a cells → FlatL K H cells ys → FlatR K H rows xs → FlatR K H (.ref a :: rows) (ys ++ xs)
section
variable {K : PySem.W.Frag} {H : Hp}
theorem FlatL.snoc {a : Addr} {ys : List V} (h : SqT K H a ys) : ∀ {cells xs : List V}, FlatL K H cells xs → FlatL K H (cells ++ [.ref a]) (xs ++ ys)
  | _, _, .nil => by have z := FlatL.cons h .nil; rwa [List.append_nil] at z
  | _, _, .cons h1 r => by rw [List.append_assoc]; exact .cons h1 (FlatL.snoc h r)
theorem FlatR.snoc {a : Addr} {cells ys : List V} (h : SqT K H a cells) (hl : FlatL K H cells ys) : ∀ {rows xs : List V}, FlatR K H rows xs → FlatR K H (rows ++ [.ref a]) (xs ++ ys)
  | _, _, .nil => by have z := FlatR.cons h hl .nil; rwa [List.append_nil] at z
  | _, _, .cons h1 h2 r => by rw [List.append_assoc]; exact .cons h1 h2 (FlatR.snoc h hl r)
theorem FlatL.same {H' : Hp} (e : Same H H') : ∀ {cells xs : List V}, FlatL K H cells xs → FlatL K H' cells xs
  | _, _, .nil => .nil
  | _, _, .cons h r => .cons (h.imp (fun z => z.imp (e _ _) fun ⟨o, z⟩ => ⟨o, e _ _ z⟩) id) (FlatL.same e r)
theorem FlatR.same {H' : Hp} (e : Same H H') : ∀ {rows xs : List V}, FlatR K H rows xs → FlatR K H' rows xs
  | _, _, .nil => .nil
  | _, _, .cons h l r => .cons (h.imp (fun z => z.imp (e _ _) fun ⟨o, z⟩ => ⟨o, e _ _ z⟩) id) (FlatL.same e l) (FlatR.same e r)
theorem sqT_new {D a : Addr} {o : HO} {ys : List V} (n : H D = none) (h : SqT K H a ys) : SqT K (upd H D o) a ys :=
  h.imp (fun z => z.imp (fun z => by rw [upd_ne (ne_of_none z n)]; exact z) fun ⟨u, z⟩ => ⟨u, by rw [upd_ne (ne_of_none z n)]; exact z⟩) id
end
section
variable {Z : Cx} {n1 n2 n3 : Str} {iter : Expr} {scope : Scope} {q1 q2 q3 a1 a2 a3 pos : Pos} {k1 k2 k3 : Nat}
/-- what the block says of its names -/
structure FlatN (Z : Cx) (n1 n2 n3 : Str) (k1 k2 k3 : Nat) : Prop where
  xe : Z.xe = fun _ _ => False
  calm : Z.calm = true
  nd : Z.N.Nodup
  h1 : Z.N[k1]? = some n1
  h2 : Z.N[k2]? = some n2
  h3 : Z.N[k3]? = some n3
  l1 : Z.env.scope.names.lookup n1 = some .local
  l2 : Z.env.scope.names.lookup n2 = some .local
  l3 : Z.env.scope.names.lookup n3 = some .local
  d1 : (n1 == ("__debug__" : Str)) = false
  d2 : (n2 == ("__debug__" : Str)) = false
  d3 : (n3 == ("__debug__" : Str)) = false
  c1 : (n1 == ("__classdict__" : Str)) = false
  c2 : (n2 == ("__classdict__" : Str)) = false
  c3 : (n3 == ("__classdict__" : Str)) = false
/-- the innermost loop -/
theorem flat_in (B : FlatN Z n1 n2 n3 k1 k2 k3) {pins : List (Addr × Obj)} {σ : L2.St} {H : Hp} {s : Shared} {R : Result → Shared → Prop} {it D c : Addr} {acc xs : List V}
    (hn : H D = none) (hc : SqT Z.K H c xs) (hz : acc.length + xs.length ≤ 1000000) (I : Inv Z pins σ (upd H D (.lst acc)) s) (st : s.heap.IsTupleIter it c 0) (hit : (upd H D (.lst acc)) it = none)
    (hfp : ∀ H, H it = none → FpOk Z pins H it)
    (fin : ∀ s' σ', Inv Z pins σ' (upd H D (.lst (acc ++ xs))) s' → Ag [k3] σ σ' → R (.ok .next) s') :
    codeAny (model Z.prog Z.w) Z.A (.compLoop (flatE n1 n2 n3 iter scope q1 q2 q3 a1 a2 a3 pos) 2 (.ref it) (.ref D) Z.env) R s := by
  refine flat_loop B.xe B.calm B.nd flat_t2 B.h3 (.inl B.l3) (.inr B.l3) (List.mem_singleton.mpr rfl) σ (fun i H' => H' = upd H D (.lst (acc ++ xs.take i)))
    (fun i H' _ e => by rw [e]; exact sqT_new hn hc) hfp (fun i x s1 σ1 H1 hx e hi I1 hk ag kk Qf Ef cont => ?_) (fun s' σ' H' I' ag e => ?_) I (Ag.refl _ _) (by rw [List.take_zero, List.append_nil]) hit st
  · subst e
    have ev := (pe_var (pos := a3) (X := Z) B.h3 (.inl B.l3) B.d3 B.c3).run _ s1 σ1 _ (fun v H2 => v = x ∧ H2 = upd H D (.lst (acc ++ xs.take i))) I1 ⟨x, hk, rfl, rfl⟩
    rw [B.xe] at ev
    refine wpAny_bind (wpAny_bind (thnF ev ?_))
    rintro u s2 ⟨v, H2, I2, r2, rfl, rfl⟩
    have lt : (acc ++ xs.take i).length < sizeLine := by
      have h4 : sizeLine = 16777216 := sizeLine_eq
      rw [List.length_append, List.length_take]
      have := Nat.min_le_right i xs.length
      omega
    refine wpAny_bind (app_ok (X := Z) I2 upd_same lt r2 fun s3 I3 => wpAny_pure ?_)
    rw [upd_upd] at I3
    refine cont s3 σ1 _ I3 ag ?_
    rw [List.take_add_one, hx, List.append_assoc]
    rfl
  · subst e
    rw [List.take_length] at I'
    exact fin s' σ' I' ag
/-- down a level: name, iterator, loop -/
theorem flat_down {pins : List (Addr × Obj)} {σ : L2.St} {H : Hp} {s : Shared} {c : Addr} {ys : List V} {nn : Str} {aa : Pos} {e : Expr} {d k : Nat} {D : Addr} {kk : Sem Fin} {Qf : Fin → Shared → Prop} {Ef : Value → Shared → Prop}
    (hxe : Z.xe = fun _ _ => False) (hN : Z.N[k]? = some nn) (hl : Z.env.scope.names.lookup nn = some .local) (hd : (nn == ("__debug__" : Str)) = false) (hcd : (nn == ("__classdict__" : Str)) = false)
    (I : Inv Z pins σ H s) (hk : σ[k]? = some (some (.ref c))) (hq : SqT Z.K H c ys)
    (go : ∀ s1 it, Inv Z pins σ H s1 → H it = none → (∀ H, H it = none → FpOk Z pins H it) → s1.heap.IsTupleIter it c 0 →
      codeAny (model Z.prog Z.w) Z.A (.compStart e d (.ref it) (.ref D) Z.env) (fun r s' => r = .ok .next ∧ wpAny (model Z.prog Z.w) Z.A kk Qf Ef s') s1) :
    wpAny (model Z.prog Z.w) Z.A (downBody e (.Name nn aa) d D Z.env kk) Qf Ef s := by
  have ev := (pe_var (pos := aa) (X := Z) hN (.inl hl) hd hcd).run _ s σ H (fun v H2 => v = .ref c ∧ H2 = H) I ⟨.ref c, hk, rfl, rfl⟩
  rw [hxe] at ev
  refine wpAny_bind (thnF ev ?_)
  rintro u s2 ⟨v, H2, I2, r2, rfl, rfl⟩
  obtain rfl : u = Value.ref c := r2
  refine wpAny_bind (wpAny_standAt (wpAny_bind (wpAny_of_eq (a := Value.ref c) rfl (wpAny_bind (wpAny_holding ?_)))))
  obtain ⟨its, rv, p, hz⟩ := I2.tuple hq
  refine wpAny_pyIter_tuple (show s2.heap.IsTuple c its.toArray from p) ?_
  refine wpAny_bind (wpAny_runOwn ?_)
  rw [Around.mark_none]
  have I3 : Inv Z pins σ H2 { s2 with heap := s2.heap.push { cls := .type "tuple_iterator", data := .fields #[.ref c, .int 0 0] } } := I2.kept (t' := s2.toks) fun b o e => Heap.get?_push_of_some _ e
  refine codeAny_mono (go _ s2.heap.objs.size I3 (I2.hok.fresh (Nat.le_refl _)) (fun H' h => I2.fpOk (Nat.le_refl _) h) ⟨_, Heap.get?_push_size _ rfl, rfl, rfl⟩) ?_
  rintro r s' ⟨rfl, hkk⟩
  exact hkk
/-- the middle loop -/
theorem flat_mid (B : FlatN Z n1 n2 n3 k1 k2 k3) {pins : List (Addr × Obj)} {σ : L2.St} {H : Hp} {s : Shared} {R : Result → Shared → Prop} {it D c : Addr} {acc cells xs : List V}
    (hn : H D = none) (hc : SqT Z.K H c cells) (hf : FlatL Z.K H cells xs) (hz : acc.length + xs.length ≤ 1000000) (I : Inv Z pins σ (upd H D (.lst acc)) s) (st : s.heap.IsTupleIter it c 0) (hit : (upd H D (.lst acc)) it = none)
    (hfp : ∀ H, H it = none → FpOk Z pins H it)
    (fin : ∀ s' σ', Inv Z pins σ' (upd H D (.lst (acc ++ xs))) s' → Ag [k2, k3] σ σ' → R (.ok .next) s') :
    codeAny (model Z.prog Z.w) Z.A (.compLoop (flatE n1 n2 n3 iter scope q1 q2 q3 a1 a2 a3 pos) 1 (.ref it) (.ref D) Z.env) R s := by
  refine flat_loop (ws := [k2, k3]) B.xe B.calm B.nd flat_t1 B.h2 (.inl B.l2) (.inr B.l2) (List.mem_cons_self) σ
    (fun i H' => ∃ pre suf ys zs, cells = pre ++ suf ∧ pre.length = i ∧ FlatL Z.K H pre ys ∧ FlatL Z.K H suf zs ∧ xs = ys ++ zs ∧ H' = upd H D (.lst (acc ++ ys)))
    (fun i H' _ ⟨_, _, _, _, _, _, _, _, _, e⟩ => by rw [e]; exact sqT_new hn hc) hfp (fun i x s1 σ1 H1 hx e hi I1 hk ag kk Qf Ef cont => ?_) (fun s' σ' H' I' ag e => ?_) I (Ag.refl _ _)
    ⟨[], cells, [], xs, rfl, rfl, .nil, hf, rfl, by rw [List.append_nil]⟩ hit st
  · obtain ⟨pre, suf, ys, zs, ec, el, f1, f2, ex, rfl⟩ := e
    cases f2 with
    | nil =>
      rw [ec, List.append_nil, ← el, List.getElem?_eq_none (Nat.le_refl _)] at hx
      exact nomatch hx
    | @cons b bs suf' zs' hb r =>
      have xb : x = .ref b := by
        rw [ec, ← el, List.getElem?_append_right (Nat.le_refl _), Nat.sub_self] at hx
        exact (Option.some.inj hx).symm
      subst xb
      have zl : acc.length + ys.length + bs.length ≤ 1000000 := by
        rw [ex, List.length_append, List.length_append] at hz
        omega
      refine flat_down B.xe B.h2 B.l2 B.d2 B.c2 I1 hk (sqT_new hn hb) fun s2 it2 I2 n2' fp2 st2 => ?_
      have loop : codeAny (model Z.prog Z.w) Z.A (.compLoop (flatE n1 n2 n3 iter scope q1 q2 q3 a1 a2 a3 pos) 2 (.ref it2) (.ref D) Z.env) (fun r s' => r = .ok .next ∧ wpAny (model Z.prog Z.w) Z.A kk Qf Ef s') s2 := by
        refine flat_in B hn hb (by rw [List.length_append]; exact zl) I2 st2 n2' fp2 fun s3 σ3 I3 ag3 => ⟨rfl, ?_⟩
        refine cont s3 σ3 _ I3 (ag.trans (ag3.mono (by simp))) ⟨pre ++ [.ref b], suf', ys ++ bs, zs', by rw [ec, List.append_assoc]; rfl, by rw [List.length_append, el]; rfl, FlatL.snoc hb f1, r, by rw [ex, List.append_assoc], by rw [List.append_assoc]⟩
      exact flat_s2 loop (wpAny_pyIter_tupleiter st2 loop)
  · obtain ⟨pre, suf, ys, zs, ec, el, f1, f2, ex, rfl⟩ := e
    have es : suf = [] := by
      have z := congrArg List.length ec
      rw [List.length_append, el] at z
      exact List.eq_nil_of_length_eq_zero (by omega)
    subst es
    cases f2
    rw [List.append_nil] at ex
    subst ex
    exact fin s' σ' I' ag
/-- the outer loop -/
theorem flat_out (B : FlatN Z n1 n2 n3 k1 k2 k3) {σ : L2.St} {H : Hp} {s : Shared} {R : Result → Shared → Prop} {it D c : Addr} {rows xs : List V}
    (hn : H D = none) (hc : SqT Z.K H c rows) (hf : FlatR Z.K H rows xs) (hz : xs.length ≤ 1000000) (I : Inv Z [] σ (upd H D (.lst [])) s) (st : s.heap.IsTupleIter it c 0) (hit : (upd H D (.lst [])) it = none)
    (hfp : ∀ H, H it = none → FpOk Z [] H it)
    (fin : ∀ s' σ', Inv Z [] σ' (upd H D (.lst xs)) s' → R (.ok .next) s') :
    codeAny (model Z.prog Z.w) Z.A (.compLoop (flatE n1 n2 n3 iter scope q1 q2 q3 a1 a2 a3 pos) 0 (.ref it) (.ref D) Z.env) R s := by
  refine flat_loop (ws := [k1, k2, k3]) B.xe B.calm B.nd flat_t0 B.h1 (.inl B.l1) (.inr B.l1) (List.mem_cons_self) σ
    (fun i H' => ∃ pre suf ys zs, rows = pre ++ suf ∧ pre.length = i ∧ FlatR Z.K H pre ys ∧ FlatR Z.K H suf zs ∧ xs = ys ++ zs ∧ H' = upd H D (.lst ys))
    (fun i H' _ ⟨_, _, _, _, _, _, _, _, _, e⟩ => by rw [e]; exact sqT_new hn hc) hfp (fun i x s1 σ1 H1 hx e hi I1 hk ag kk Qf Ef cont => ?_) (fun s' σ' H' I' ag e => ?_) I (Ag.refl _ _)
    ⟨[], rows, [], xs, rfl, rfl, .nil, hf, rfl, rfl⟩ hit st
  · obtain ⟨pre, suf, ys, zs, ec, el, f1, f2, ex, rfl⟩ := e
    cases f2 with
    | nil =>
      rw [ec, List.append_nil, ← el, List.getElem?_eq_none (Nat.le_refl _)] at hx
      exact nomatch hx
    | @cons b bcells bs suf' zs' hb hbl r =>
      have xb : x = .ref b := by
        rw [ec, ← el, List.getElem?_append_right (Nat.le_refl _), Nat.sub_self] at hx
        exact (Option.some.inj hx).symm
      subst xb
      have zl : ys.length + bs.length ≤ 1000000 := by
        rw [ex, List.length_append, List.length_append] at hz
        omega
      refine flat_down B.xe B.h1 B.l1 B.d1 B.c1 I1 hk (sqT_new hn hb) fun s2 it2 I2 n2' fp2 st2 => ?_
      have loop : codeAny (model Z.prog Z.w) Z.A (.compLoop (flatE n1 n2 n3 iter scope q1 q2 q3 a1 a2 a3 pos) 1 (.ref it2) (.ref D) Z.env) (fun r s' => r = .ok .next ∧ wpAny (model Z.prog Z.w) Z.A kk Qf Ef s') s2 := by
        refine flat_mid B hn hb hbl zl I2 st2 n2' fp2 fun s3 σ3 I3 ag3 => ⟨rfl, ?_⟩
        refine cont s3 σ3 _ I3 (ag.trans (ag3.mono (by simp))) ⟨pre ++ [.ref b], suf', ys ++ bs, zs', by rw [ec, List.append_assoc]; rfl, by rw [List.length_append, el]; rfl, FlatR.snoc hb hbl f1, r, by rw [ex, List.append_assoc], rfl⟩
      exact flat_s1 loop (wpAny_pyIter_tupleiter st2 loop)
  · obtain ⟨pre, suf, ys, zs, ec, el, f1, f2, ex, rfl⟩ := e
    have es : suf = [] := by
      have z := congrArg List.length ec
      rw [List.length_append, el] at z
      exact List.eq_nil_of_length_eq_zero (by omega)
    subst es
    cases f2
    rw [List.append_nil] at ex
    subst ex
    exact fin s' σ' I'
end
end Sg
set_option Elab.async false
set_option linter.all false
set_option maxRecDepth 100000
set_option maxHeartbeats 4000000
namespace Sg
open PySem PySem.Spec PyProof.Rows L2
/-- [c for a in e for b in a for c in b]: e a tuple of tuples of tuples -/
def tFlat (K : PySem.W.Frag) (te : TE) : TE := fun σ H Q => te σ H fun v H1 => ∃ t rows xs, v = .ref t ∧ SqT K H1 t rows ∧ FlatR K H1 rows xs ∧ xs.length ≤ 1000000 ∧
  ∀ D, H1 D = none → Q (.ref D) (upd H1 D (.lst xs))
section
variable {X : Cx} {n1 n2 n3 : Str} {iter : Expr} {scope : Scope} {q1 q2 q3 a1 a2 a3 pos : Pos} {k1 k2 k3 : Nat} {own : List (Str × Nat)} {te : TE}
theorem pe_flat (hc : X.calm = true) (hN : X.N.Nodup) (hi : PE X iter te) (ok : BlkOk X.N X.env.scope scope own)
    (h1 : X.N[k1]? = some n1) (h2 : X.N[k2]? = some n2) (h3 : X.N[k3]? = some n3)
    (l1 : ∀ (C : Addr) (cl : List (Str × Addr)), (compEnvC scope cl C X.env).scope.names.lookup n1 = some .local)
    (l2 : ∀ (C : Addr) (cl : List (Str × Addr)), (compEnvC scope cl C X.env).scope.names.lookup n2 = some .local)
    (l3 : ∀ (C : Addr) (cl : List (Str × Addr)), (compEnvC scope cl C X.env).scope.names.lookup n3 = some .local)
    (dd : ((n1 == ("__debug__" : Str)) || (n2 == ("__debug__" : Str)) || (n3 == ("__debug__" : Str)) || (n1 == ("__classdict__" : Str)) || (n2 == ("__classdict__" : Str)) || (n3 == ("__classdict__" : Str))) = false := by decide)
    (hs : ∀ x, foldedSetIterable iter X.env x = pure x := by intro _; rfl) :
    PE X (flatE n1 n2 n3 iter scope q1 q2 q3 a1 a2 a3 pos) (tFlat X.K te) := by
  simp only [Bool.or_eq_false_iff] at dd
  obtain ⟨⟨⟨⟨⟨d1, d2⟩, d3⟩, c1⟩, c2⟩, c3⟩ := dd
  constructor
  intro pins s σ H Q I h
  rw [eval_ListComp]
  have hfree : ∀ y ∈ scope.names, y.2 = .free → ∃ c, X.env.cells.lookup y.1 = some c := by
    intro y hy e
    cases ok.free y hy e with
    | inl k => exact I.ok.has _ (.inl k)
    | inr k => exact I.ok.has _ (.inr k)
  refine wpAny_comprehension_free (use := none) rfl hs (closure_ok hfree) ok.kind (fun y hy e => by rw [ok.uniq y hy, e]) (thn (hi.run pins s σ H _ I h) ?_)
  rintro xv s1 ⟨v, H1, I1, r1, t, rows, xs, rfl, hq, hf, hz, q⟩
  obtain rfl : xv = Value.ref t := r1
  obtain ⟨its, rv, p, hzz⟩ := I1.tuple hq
  refine wpAny_pyIter_tuple (show s1.heap.IsTuple t its.toArray from p) ?_
  generalize hs2 : ({ s1 with heap := s1.heap.push { cls := .type "tuple_iterator", data := .fields #[.ref t, .int 0 0] } } : Shared) = s2
  have I2 : Inv X pins σ H1 s2 := by
    rw [← hs2]
    exact I1.kept (t' := s1.toks) fun b o e => Heap.get?_push_of_some _ e
  generalize hit : s1.heap.objs.size = it
  have st2 : s2.heap.IsTupleIter it t 0 := by
    rw [← hs2, ← hit]
    exact ⟨_, Heap.get?_push_size _ rfl, rfl, rfl⟩
  have nn2 : H1 it = none := I1.hok.fresh (Nat.le_of_eq hit)
  have lt2 : it < s2.heap.objs.size := by
    obtain ⟨_, e, _⟩ := st2
    exact Heap.lt_size e
  have f2 : ∀ H', H' it = none → FpOk X pins H' it := fun H' hn => I1.fpOk (Nat.le_of_eq hit) hn
  refine wpAny_newObj_type (newEnv_comp ?_) (by show 0 ≤ sizeLine; decide)
  generalize hD : s2.heap.objs.size = D
  have hDn : H1 D = none := I2.hok.fresh (Nat.le_of_eq hD)
  generalize hs3 : ({ s2 with heap := s2.heap.push { cls := .type "list", data := .seq ([] : List Value).toArray } } : Shared) = s3
  have I3 : Inv X pins σ (upd H1 D (.lst [])) s3 := by
    rw [← hs3]
    refine I2.laid (t' := s2.toks) (fun b o e => Heap.get?_push_of_some _ e) (Nat.le_of_eq hD) ⟨Nat.zero_le _, [], 0, .nil, ?_⟩
    rw [← hD]
    exact Heap.get?_push_size _ rfl
  have k3' : ∀ b o, s2.heap.get? b = some o → s3.heap.get? b = some o := by
    intro b o e
    rw [← hs3]
    exact Heap.get?_push_of_some _ e
  have st3 : s3.heap.IsTupleIter it t 0 := st2.at fun o e => k3' it o e
  have lt3 : it < s3.heap.objs.size := by
    obtain ⟨_, e, _⟩ := st3
    exact Heap.lt_size e
  have nit : (upd H1 D (.lst [])) it = none := by
    rw [upd_ne (by rw [← hD]; exact Nat.ne_of_lt lt2)]
    exact nn2
  have I4 := block_start (fp := [it]) I3 ok hN (by
    intro b hb
    rw [List.mem_singleton.mp hb]
    exact ⟨f2 _ nit, lt3⟩)
  show codeAny _ _ (.compStart (flatE n1 n2 n3 iter scope q1 q2 q3 a1 a2 a3 pos) 0 (.ref it) (.ref D) (compEnvC scope (cellsFrom (s3.heap.objs.size + 1) scope.names (cloFrom X.env.cells scope.names [])) s3.heap.objs.size X.env))
    (compPost (model X.prog X.w) X.A X.xe none (EP X pins σ Q) (.ref D) s3.heap.objs.size) { s3 with heap := pushCells (s3.heap.push { cls := .type "dict", data := .dict #[] }) scope.names }
  have hl1 := l1 s3.heap.objs.size (cellsFrom (s3.heap.objs.size + 1) scope.names (cloFrom X.env.cells scope.names []))
  have hl2 := l2 s3.heap.objs.size (cellsFrom (s3.heap.objs.size + 1) scope.names (cloFrom X.env.cells scope.names []))
  have hl3 := l3 s3.heap.objs.size (cellsFrom (s3.heap.objs.size + 1) scope.names (cloFrom X.env.cells scope.names []))
  have cL : (compEnvC scope (cellsFrom (s3.heap.objs.size + 1) scope.names (cloFrom X.env.cells scope.names [])) s3.heap.objs.size X.env).locals = s3.heap.objs.size := rfl
  generalize compEnvC scope (cellsFrom (s3.heap.objs.size + 1) scope.names (cloFrom X.env.cells scope.names [])) s3.heap.objs.size X.env = ce at I4 hl1 hl2 hl3 cL ⊢
  have st4 : (pushCells (s3.heap.push { cls := .type "dict", data := .dict #[] }) scope.names).IsTupleIter it t 0 :=
    st3.at fun o e => pushCells_keeps _ _ _ _ (Heap.get?_push_of_some _ e)
  generalize hs4 : ({ s3 with heap := pushCells (s3.heap.push { cls := .type "dict", data := .dict #[] }) scope.names } : Shared) = s4 at I4 ⊢
  have st4' : s4.heap.IsTupleIter it t 0 := by rw [← hs4]; exact st4
  have B : FlatN (X.blk s3 (upd H1 D (.lst [])) scope ce [it]) n1 n2 n3 k1 k2 k3 := ⟨rfl, hc, hN, h1, h2, h3, hl1, hl2, hl3, d1, d2, d3, c1, c2, c3⟩
  have fpZ : ∀ H', H' it = none → FpOk (X.blk s3 (upd H1 D (.lst [])) scope ce [it]) [] H' it := by
    intro H' hn
    refine ⟨hn, (I4.ok.exf it (List.mem_singleton.mpr rfl)).1, I4.ok.exfs it (List.mem_singleton.mpr rfl), .inl (List.mem_singleton.mpr rfl), (I4.ok.exf it (List.mem_singleton.mpr rfl)).2, ?_⟩
    intro p hp
    have hp' : p ∈ ([] : List (Addr × Obj)) ++ [] := hp
    exact nomatch hp'
  have loop : codeAny (model X.prog X.w) X.A (.compLoop (flatE n1 n2 n3 iter scope q1 q2 q3 a1 a2 a3 pos) 0 (.ref it) (.ref D) ce)
      (compPost (model X.prog X.w) X.A X.xe none (EP X pins σ Q) (.ref D) s3.heap.objs.size) s4 := by
    refine flat_out B hDn hq hf hz I4 st4' nit fpZ ?_
    intro s' σ' I5
    have I6 : Inv X pins σ (upd H1 D (.lst xs)) s' := by
      refine I3.call' (ch := [it]) I5.os I5.base I5.hok I5.bare ?_
      intro b hb
      rw [List.mem_singleton.mp hb]
      obtain ⟨_, g1, g2, g3, g4, g5⟩ := f2 _ nit
      exact ⟨g3, g1, g4, g5⟩
    have nC : (upd H1 D (.lst xs)) s3.heap.objs.size = none := by
      have z : (upd H1 D (.lst xs)) ce.locals = none := I5.free
      rw [cL] at z
      exact z
    obtain ⟨m, hn, _⟩ := I5.loc
    have hn' : s'.heap.Ns ce.locals m := hn
    rw [cL] at hn'
    refine ⟨m, hn', ?_⟩
    intro h'' sb
    obtain ⟨f0, f1, f2', f3, f4, f5⟩ := I3.fpOk (Nat.le_refl _) nC
    exact ⟨.ref D, _, I6.turned (t' := s'.toks) (fun b o hb e => (sb.2 b hb).trans e) f0 f1 f3 f4 f5, rfl, q D hDn⟩
  exact codeAny_compStart_list loop (wpAny_pyIter_tupleiter st4' loop)
end
end Sg
set_option Elab.async false
set_option linter.all false
set_option maxRecDepth 100000
set_option maxHeartbeats 4000000
namespace Sg
open PySem PySem.Spec PyProof.Rows L2
/-! ## max with a default -/
section
variable {X : Cx}
theorem cr_maxD (hc : X.calm = true) {j : Nat} (hr : Room j X.A) : CallRK X (.builtin "max") ["default"] (fun vs zs H Q => ∃ (a : Addr) (ns : List Int) (d : Int), vs = [.ref a] ∧ zs = [.int d] ∧ SqL X.K H a (ns.map V.int) ∧
    ∀ m : Int, (ns = [] → m = d) → (ns ≠ [] → m ∈ ns ∧ ∀ x ∈ ns, x ≤ m) → Q (.int m) H) := by
  intro pins s σ H xs zs us ws Q I r rz h
  obtain ⟨a, ns, d, rfl, rfl, hs, q⟩ := h
  obtain ⟨u, rfl, rfl⟩ := vals1 r
  obtain ⟨dv, rfl, td, rfl⟩ := vals1 rz
  obtain ⟨its, rv, hl, hzz⟩ := I.list hs
  have dp : DpAll X.K H (ns.map V.int) (ns.map PyData.int) := by
    clear hs q rv hl hzz
    induction ns with
    | nil => exact .nil
    | cons x r ih => exact .cons (.int x) ih
  obtain ⟨as, rd⟩ := Dp.readsAll I (ns.map PyData.int) _ its dp rv
  have al : PySem.W.AlikeAll (ns.map PyData.int) := by
    constructor
    · intro x hx y hy
      obtain ⟨i, _, rfl⟩ := List.mem_map.mp hx
      obtain ⟨j, _, rfl⟩ := List.mem_map.mp hy
      rfl
    · intro x hx z
      obtain ⟨i, _, rfl⟩ := List.mem_map.mp hx
      exact nomatch z
  have dep : PyData.depthAll (ns.map PyData.int) = 0 := by
    clear hs q rv hl rd al dp hzz
    induction ns with
    | nil => rfl
    | cons x r ih =>
      show max (PyData.depth (.int x)) (PyData.depthAll (r.map PyData.int)) = 0
      rw [ih]; rfl
  have hu := hr.units
  refine PySem.W.max_list_default (I.ok.hd hc) hl.isList (by simpa using rd) al (by rw [dep]; omega) (fun e h' tk hk => ?_) (fun y ys i v h' tk bs e hv hrd hk => ?_)
  · exact ⟨.int d, H, I.kept hk, ⟨_, rfl⟩, q d (fun _ => rfl) (fun z => absurd (List.map_eq_nil_iff.mp e) z)⟩
  · cases ns with
    | nil => exact nomatch e
    | cons n ns' =>
      obtain ⟨e1, e2⟩ := List.cons.inj e
      subst e1 e2
      rw [PySem.W.maxD_ints] at hrd
      cases hrd
      refine ⟨.int _, H, I.kept hk, ⟨_, rfl⟩, q _ (fun z => nomatch z) (fun _ => ?_)⟩
      have key : ∀ (l : List Int) (a : Int), (l.foldl max a = a ∨ l.foldl max a ∈ l) ∧ a ≤ l.foldl max a ∧ ∀ x ∈ l, x ≤ l.foldl max a := by
        intro l
        induction l with
        | nil => intro a; exact ⟨.inl rfl, Int.le_refl _, fun x hx => nomatch hx⟩
        | cons b l ih =>
          intro a
          obtain ⟨g1, g2, g3⟩ := ih (max a b)
          refine ⟨?_, by show a ≤ l.foldl max (max a b); omega, fun x hx => ?_⟩
          · show l.foldl max (max a b) = a ∨ l.foldl max (max a b) ∈ b :: l
            rcases g1 with g | g
            · rcases Int.le_total a b with z | z
              · right; rw [g, Int.max_eq_right z]; exact List.mem_cons_self
              · left; rw [g, Int.max_eq_left z]
            · exact .inr (List.mem_cons_of_mem _ g)
          · show x ≤ l.foldl max (max a b)
            rcases List.mem_cons.mp hx with rfl | z
            · omega
            · exact g3 x z
      obtain ⟨g1, g2, g3⟩ := key ns' n
      refine ⟨?_, fun x hx => ?_⟩
      · rcases g1 with g | g
        · rw [g]; exact List.mem_cons_self
        · exact List.mem_cons_of_mem _ g
      · rcases List.mem_cons.mp hx with rfl | z
        · exact g2
        · exact g3 x z
end
/-! ## operators of one's own -/
section
variable {X : Cx} {k : Nat} {C g : Addr} {fd : FuncData} {ps : List Str} {sp : Sp}
theorem back_of {pins : List (Addr × Obj)} {σ : L2.St} {Q : VK} {u : Value} {s : Shared} (h : EP X pins σ Q u s) : PySem.W.CmpBack (EP X pins σ Q) u s := by
  obtain ⟨v, H, I, r, q⟩ := id h
  cases v with
  | non => cases r; exact h
  | bl b => cases r; exact h
  | int i => obtain ⟨t, rfl⟩ := r; exact h
  | str i => obtain ⟨t, rfl⟩ := r; exact h
  | byt i => obtain ⟨t, rfl⟩ := r; exact h
  | flt i => obtain ⟨t, rfl⟩ := r; exact h
  | ref a => cases r; exact h
  | ty n => cases r; exact h
/-- an instance of C -/
def InsAt (H : Hp) (C a : Addr) : Prop := ∃ dx fs, H a = some (.ins C dx fs)
theorem insAt_look {pins : List (Addr × Obj)} {σ : L2.St} {H : Hp} {s : Shared} {a : Addr} (I : Inv X pins σ H s) (h : InsAt H C a) : ∃ ox od, PySem.W.InstAt s.heap a ox C od := by
  obtain ⟨dx, fs, h⟩ := h
  obtain ⟨mA, O, _⟩ := ins_get I.hok h
  obtain ⟨od, J, _⟩ := O.look
  exact ⟨_, _, J⟩
/-- a == b, both instances of C -/
theorem op_ownEq (F : FnOk X.prog X.w X.K X.mg X.base CX0 k g fd ps sp) (hr : Room k X.A) (hb : Binds X.K fd ps []) (hs : PySem.W.findIn X.K (.ref C) "__eq__" = some (some (.ref g))) (hf : PySem.W.isFn X.K (.ref g) = true) :
    OpR X (compareOp .Eq) (fun x y H Q => ∃ a b, x = .ref a ∧ y = .ref b ∧ InsAt H C a ∧ InsAt H C b ∧ sp [.ref a, .ref b] H Q E0) := by
  intro pins s σ H x y v u Q I rx ry h
  obtain ⟨a, b, rfl, rfl, ha, hb', h⟩ := h
  obtain rfl : v = Value.ref a := rx
  obtain rfl : u = Value.ref b := ry
  obtain ⟨m, hF⟩ := I.fr
  obtain ⟨_, _, J⟩ := insAt_look I ha
  obtain ⟨_, _, J'⟩ := insAt_look I hb'
  show wpAny (model X.prog X.w) X.A (richCompare .Eq (.ref a) (.ref b)) (EP X pins σ Q) X.xe s
  refine PySem.W.cmp_K (op := .Eq) (tb := .ref C) hr.units0 hF I.ok.mod.kin J J'.type (by simp [PySem.W.notFirst]) hs hf ?_
  exact thn (run_fn (us := [.ref a, .ref b]) (vs := [.ref a, .ref b]) F hr hb .nil pass0 I (.cons rfl (.cons rfl .nil)) h) fun _ _ z => back_of z
/-- a def called one C frame further in -/
theorem run_in1 {pins : List (Addr × Obj)} {σ : L2.St} {H : Hp} {s : Shared} {Q : VK} {us : List Value} {vs : List V} (F : FnOk X.prog X.w X.K X.mg X.base CX0 k g fd ps sp) (hr : Room (k + 1) X.A) (hb : Binds X.K fd ps [])
    (I : Inv X pins σ H s) (r : Vals vs us) (h : sp vs H Q E0) {E : Value → Shared → Prop} : wpAny (model X.prog X.w) X.A.in1 (call (.ref g) us) (EP X pins σ Q) E s := by
  have hl : (us ++ []).length = ps.length := by rw [List.append_nil, ← r.length]; exact F.len _ _ _ _ h
  have hbb := hb s us I.kIn hl
  rw [List.append_nil] at hbb
  refine wpAny_call (codeAny_mono (F.run X.A.in1 X.stack s H ⟨us, []⟩ us vs Q E0 hr.in1 I.env0.in1 hbb r h) ?_)
  intro r' s' hq
  match r', hq with
  | .error _, hq => exact hq.elim
  | .ok (.ret _), hq => exact I.after hq
  | .ok .next, hq => exact hq.elim
  | .ok .brk, hq => exact hq.elim
  | .ok .cont, hq => exact hq.elim
/-- len(a) -/
theorem call_lenO (F : FnOk X.prog X.w X.K X.mg X.base CX0 k g fd ps sp) (hr : Room (k + 1) X.A) (hb : Binds X.K fd ps []) (hs : PySem.W.findIn X.K (.ref C) "__len__" = some (some (.ref g))) (hf : PySem.W.isFn X.K (.ref g) = true) :
    CallR X (.builtin "len") (fun xs H Q => ∃ a, xs = [.ref a] ∧ InsAt H C a ∧ sp [.ref a] H (fun v H' => ∃ n : Nat, v = .int n ∧ n < 1000000 ∧ Q (.int n) H') E0) := by
  intro pins s σ H xs us Q I r h
  obtain ⟨a, rfl, ha, h⟩ := h
  obtain ⟨u, rfl, rfl⟩ := vals1 r
  obtain ⟨m, hF⟩ := I.fr
  obtain ⟨_, _, J⟩ := insAt_look I ha
  refine PySem.W.len_K hF I.ok.mod.kin J hs hf (thn (run_in1 (us := [.ref a]) (vs := [.ref a]) F hr hb I (.cons rfl .nil) h) ?_)
  rintro v s' ⟨x, H', I', rx, n, rfl, hn, q⟩
  obtain ⟨t, rfl⟩ := rx
  exact ⟨⟨by omega, by omega⟩, ⟨.int n, H', I'.tok _, ⟨_, rfl⟩, q⟩⟩
/-- the same as an FnR -/
theorem fnR_of {P : Program} {w : World} {K : PySem.W.Frag} {mg : Str → Option Value} {base : Heap} (F : FnOk P w K mg base CX0 k g fd ps sp) (hb : Binds K fd ps []) : FnR P w K mg base CX0 k g sp := by
  intro A outer s H us vs Q E hr e0 r h
  have hl : (us ++ []).length = ps.length := by rw [List.append_nil, ← r.length]; exact F.len _ _ _ _ h
  have KX : K.In s.heap := e0.mod.kin.keeps fun b o e => (e0.bs b o e).1
  have hbb := hb s us KX hl
  rw [List.append_nil] at hbb
  exact F.run A outer s H ⟨us, []⟩ us vs Q E hr e0 hbb r h
end
end Sg
set_option Elab.async false
set_option linter.all false
set_option maxRecDepth 100000
set_option maxHeartbeats 4000000
namespace Sg
open PySem PySem.Spec PyProof.Rows L2
/-! ## != by an own __eq__ -/
theorem slot_object_ne : Slot "object" "__ne__" "object.__ne__" :=
  Slot.of (T := "object") (name := "__ne__") (owner := "object") (n := "__ne__") (by rw [typeLookup_type, builtinLookup_eq_fast]; kernel_rfl)
    (by decide +kernel) (by decide +kernel) (by decide +kernel) (.inl (by decide +kernel)) (by rw [isSubtype_type]; kernel_rfl)
section
variable {X : Cx} {k : Nat} {C g : Addr} {fd : FuncData} {ps : List Str} {sp : Sp}
theorem op_ownNe (F : FnOk X.prog X.w X.K X.mg X.base CX0 k g fd ps sp) (hr : Room (k + 2) X.A) (hb : Binds X.K fd ps []) (hs : PySem.W.findIn X.K (.ref C) "__eq__" = some (some (.ref g))) (hf : PySem.W.isFn X.K (.ref g) = true)
    (hne : PySem.W.findIn X.K (.ref C) "__ne__" = some (some (.builtin "object.__ne__"))) (hsub : PySem.W.subIn X.K (.ref C) (.type "object") = some true) :
    OpR X (compareOp .NotEq) (fun x y H Q => ∃ a b, x = .ref a ∧ y = .ref b ∧ InsAt H C a ∧ InsAt H C b ∧ sp [.ref a, .ref b] H (fun v H' => ∃ c, v = .bl c ∧ Q (.bl (!c)) H') E0) := by
  intro pins s σ H x y v u Q I rx ry h
  obtain ⟨a, b, rfl, rfl, ha, hb', h⟩ := h
  obtain rfl : v = Value.ref a := rx
  obtain rfl : u = Value.ref b := ry
  obtain ⟨_, _, J⟩ := insAt_look I ha
  obtain ⟨_, _, J'⟩ := insAt_look I hb'
  have hcall := run_in1 (us := [.ref a, .ref b]) (vs := [.ref a, .ref b]) (E := X.xe) F (hr.mono (by omega)) hb I (.cons rfl (.cons rfl .nil)) h
  have inner : wpAny (model X.prog X.w) X.A.in1 (Builtin.«object.__ne__» ⟨[.ref a, .ref b], []⟩) (fun fin s' => ∃ r, fin = .done (.ret (.bool r)) ∧ EP X pins σ Q (.bool r) s') X.xe s := by
    unfold Builtin.«object.__ne__»
    refine wpAny_bind (m := slotArgs "__ne__" 1 ⟨[.ref a, .ref b], []⟩) (wpAny_of_eq (a := (Value.ref a, [Value.ref b])) (by first | rfl | (simp only [slotArgs]; rfl)) ?_)
    refine wpAny_bind (wpAny_cRoomFor (show X.A.in1.units < cLine from (hr.mono (show k + 1 ≤ k + 2 by omega)).in1.units0) ?_)
    refine wpAny_bind (m := callSpecialIfBound? (.ref a) (Str.ofString "__eq__") [.ref b]) (PySem.W.ifBound_K I.kIn J hs hf (thn hcall ?_))
    rintro w' s' ⟨z, H', I', rz, c, rfl, q⟩
    obtain rfl : w' = Value.bool c := rz
    refine wpAny_bind (wpAny_truthy_bool ?_)
    exact wpAny_pure ⟨!c, rfl, .bl (!c), H', I', rfl, q⟩
  have isI : PySem.W.Looks (model X.prog X.w) s.heap (isInstance (.ref a) (.type "object")) true := J.type.andThen (PySem.W.looks_subIn I.kIn hsub)
  have one : wpAny (model X.prog X.w) X.A (tryCompare (.ref a) "__ne__" (.ref b)) (fun r s' => ∃ c, r = some (.bool c) ∧ EP X pins σ Q (.bool c) s') X.xe s := by
    unfold tryCompare
    have call1 : wpAny (model X.prog X.w) X.A (call (.builtin "object.__ne__") [.ref a, .ref b]) (fun r s' => ∃ c, r = .bool c ∧ EP X pins σ Q (.bool c) s') X.xe s := by
      refine wpAny_call (codeAny_call_builtin slot_object_ne.plain PySem.F.cmpEntry_ne ?_)
      refine PySem.W.check_slot PySem.F.cmpKind_ne PySem.F.cmpSplit_ne isI (PySem.F.cmpArgs_ne _ _) (thn inner ?_)
      rintro fin s' ⟨r, rfl, q⟩
      exact ⟨r, rfl, q⟩
    have call2 : wpAny (model X.prog X.w) X.A (callSpecialIfBound? (.ref a) "__ne__" [.ref b]) (fun r s' => ∃ c, r = some (.bool c) ∧ EP X pins σ Q (.bool c) s') X.xe s := by
      simp only [callSpecialIfBound?, bindSpecialIfBound?]
      refine wpAny_holding (wpAny_bind (wpAny_bind (wpAny_bind (J.type.here ((PySem.W.looks_findIn I.kIn hne).here ?_)))))
      refine wpAny_bind (wpAny_askSetting (wpAny_ite ?_))
      have fin : wpAny (model X.prog X.w) X.A (call (.builtin "object.__ne__") ([.ref a] ++ [.ref b]) >>= fun v => pure (some v)) (fun r s' => ∃ c, r = some (.bool c) ∧ EP X pins σ Q (.bool c) s') X.xe s := by
        refine wpAny_bind (thn call1 ?_)
        rintro r s' ⟨c, rfl, q⟩
        exact wpAny_pure ⟨c, rfl, q⟩
      have bind : (bindSpecial (.builtin "object.__ne__") (.ref a) : Sem _) = pure (.builtin "object.__ne__", [.ref a]) := slot_object_ne.bind (.ref a)
      split
      · rw [bind]; exact wpAny_bind (wpAny_pure (wpAny_pure (by exact fin)))
      · rw [bind]; exact wpAny_tryCatch (wpAny_bind (wpAny_pure (wpAny_pure (by exact fin))))
    refine wpAny_bind (thn call2 ?_)
    rintro r s' ⟨c, rfl, q⟩
    exact wpAny_pure ⟨c, rfl, q⟩
  show wpAny (model X.prog X.w) X.A (richCompare .NotEq (.ref a) (.ref b)) (EP X pins σ Q) X.xe s
  unfold richCompare
  simp only [oneThing_ref]
  refine wpAny_holding (wpAny_bind (wpAny_cRoomFor hr.units0 ?_))
  refine wpAny_bind (J.type.here (wpAny_bind (J'.type.here ?_)))
  rw [show (Value.ref C != Value.ref C) = false from by simp]
  simp only [Bool.false_eq_true, if_false]
  refine wpAny_bind (wpAny_pure ?_)
  simp only [Bool.false_eq_true, if_false]
  refine wpAny_bind (thn one ?_)
  rintro r s' ⟨c, rfl, q⟩
  exact wpAny_pure q
end
end Sg
set_option Elab.async false
set_option linter.all false
set_option maxRecDepth 100000
set_option maxHeartbeats 4000000
namespace Sg
open PySem PySem.Spec PyProof.Rows L2 HT
/-! ## t[::-1] of a tuple -/
section
variable {prog : Program} {w : World} {A : Around} {E : Value → Shared → Prop} {s : Shared}
theorem slicePlaces_rev (n : Nat) : Builtin.Slice.slicePlaces ((n : Int) - 1) (-1) (-1) = n := by
  unfold Builtin.Slice.slicePlaces
  have h1 : ¬ ((-1 : Int) > 0) := by omega
  simp only [h1, if_false, Int.neg_neg, Int.ediv_one]
  split <;> omega
theorem sliceApplied_rev {sl : Addr} {vl vu vs : Value} {n : Nat} {Q : Int × Int × Nat → Shared → Prop} (hs : s.heap.IsSliceOf sl vl vu vs) (pl : IsPart vl none) (pu : IsPart vu none) (ps : IsPart vs (some (-1)))
    (h : Q ((n : Int) - 1, -1, n) s) : wpAny (model prog w) A (Builtin.Slice.sliceApplied (.ref sl) (pure (n : Int))) Q E s := by
  obtain ⟨os, hos, hcs, hds⟩ := id hs
  unfold Builtin.Slice.sliceApplied Builtin.Slice.sliceFields
  refine wpAny_bind (wpAny_bind (wpAny_field hos hds (x := vl) rfl (wpAny_bind (wpAny_field hos hds (x := vu) rfl (wpAny_bind (wpAny_field hos hds (x := vs) rfl (wpAny_pure ?_)))))))
  refine wpAny_bind (slicePart_ ps ?_)
  show wpAny _ _ (if ((-1 : Int) == 0) = true then _ else _) _ _ s
  rw [if_neg (by decide)]
  refine wpAny_bind (slicePart_ pl (wpAny_bind (slicePart_ pu (wpAny_bind (wpAny_pure ?_)))))
  show wpAny _ _ (pure ((n : Int) - 1, (-1 : Int), Builtin.Slice.slicePlaces ((n : Int) - 1) (-1) (-1))) _ _ s
  rw [slicePlaces_rev]
  exact wpAny_pure h
theorem filterMap_on {α β : Type} {f g : α → Option β} : ∀ {l : List α}, (∀ x ∈ l, f x = g x) → l.filterMap f = l.filterMap g
  | [], _ => rfl
  | x :: r, h => by
    rw [List.filterMap_cons, List.filterMap_cons, h x List.mem_cons_self, filterMap_on fun y hy => h y (List.mem_cons_of_mem _ hy)]
theorem pick_rev (xs : Array Value) : ((List.range xs.size).filterMap fun (m : Nat) => xs[(((xs.size : Int) - 1) + (m : Int) * (-1)).toNat]?).toArray = xs.toList.reverse.toArray := by
  have e1 : ∀ m ∈ List.range xs.size, xs[(((xs.size : Int) - 1) + (m : Int) * (-1)).toNat]? = xs[xs.size - 1 - m]? := by
    intro m hm
    have := List.mem_range.mp hm
    rw [show (((xs.size : Int) - 1) + (m : Int) * (-1)).toNat = xs.size - 1 - m from by omega]
  have e2 : ((List.range xs.size).map fun k => xs.size - 1 - k).filterMap (xs[·]?) = xs.toList.reverse := by
    rw [PySem.W.krv_range, List.filterMap_reverse, PySem.W.krv_all]
  rw [List.filterMap_map] at e2
  rw [← e2]
  congr 1
  exact filterMap_on (fun m hm => e1 m hm)
theorem getItem_tuple_rev {t sl : Addr} {items : Array Value} {vl vu vs : Value} {Q : Value → Shared → Prop} (ht : IsTup s.heap t items) (hs : s.heap.IsSliceOf sl vl vu vs) (pl : IsPart vl none) (pu : IsPart vu none) (ps : IsPart vs (some (-1)))
    (h : Q (.ref s.heap.objs.size) { s with heap := s.heap.push { cls := .type "tuple", data := .seq items.toList.reverse.toArray } })
    (hsz : items.size ≤ sizeLine) : wpAny (model prog w) A (getItem (.ref t) (.ref sl)) Q E s := by
  have htake : sizeOk (.seq items.toList.reverse.toArray) := by
    show items.toList.reverse.toArray.size ≤ sizeLine
    rw [List.size_toArray, List.length_reverse, Array.length_toList]
    exact hsz
  obtain ⟨os, hos, hcs, hds⟩ := id hs
  have hTs : s.TypeIs (.ref sl) "slice" := ⟨os, hos, hcs⟩
  unfold getItem
  try with_reducible refine wpAny_holding ?_
  first | refine wpAny_bind (wpAny_pure ?_) | skip
  refine wpAny_bind (wpAny_sequenceKey ht.typeIs (by decide) ?_)
  refine wpAny_bind (wpAny_callSpecial?_slot (name := Str.ofString "__getitem__") ht.typeIs PyProof.Rows.slot_tuple_getitem
    (wpAny_call_entry PyProof.Rows.slot_tuple_getitem ht.typeIs entry_tuple_getitem ?_ (args_tuple_getitem _ _)))
  show wpAny _ _ (Builtin.Tuple.tupleItemsOf (.ref t) >>= _) _ _ s
  refine wpAny_bind (tupleItemsOf_ ht ?_)
  refine wpAny_bind (wpAny_typeOf hTs ?_)
  rw [if_pos (by decide)]
  refine wpAny_bind (sliceApplied_rev hs pl pu ps ?_)
  have hno : ¬ ((((items.size : Int) - 1) == 0 && (-1 : Int) == 1 && items.size == items.size) = true) := by
    rw [show ((-1 : Int) == 1) = false from by decide, Bool.and_false, Bool.false_and]
    exact Bool.false_ne_true
  show wpAny _ _ (if (((items.size : Int) - 1) == 0 && (-1 : Int) == 1 && items.size == items.size) = true then _ else _) _ _ s
  rw [if_neg hno, pick_rev]
  first
    | exact wpAny_bind (m := Builtin.Tuple.tupleExact _) (wpAny_newObj_type (wpAny_pure ⟨_, rfl, wpAny_pure h⟩) htake)
    | exact wpAny_bind (m := Builtin.Tuple.tupleExact _) (wpAny_newObj_type (wpAny_bind (wpAny_pure (wpAny_pure ⟨_, rfl, wpAny_pure h⟩))) htake)
    | exact wpAny_bind (wpAny_bind (m := Builtin.Tuple.tupleExact _) (wpAny_newObj_type (wpAny_pure (wpAny_pure ⟨_, rfl, wpAny_pure h⟩)) htake))
    | exact wpAny_bind (wpAny_bind (m := Builtin.Tuple.tupleExact _) (wpAny_newObj_type (wpAny_pure ⟨_, rfl, wpAny_pure h⟩) htake))
end
def tRevT (K : PySem.W.Frag) (te : TE) : TE := fun σ H Q => te σ H fun x H1 => ∃ a xs, x = .ref a ∧ SqT K H1 a xs ∧ ∀ p, H1 p = none → Q (.ref p) (upd H1 p (.tup xs.reverse))
theorem pe_revT {X : Cx} {K : PySem.W.Frag} {e : Expr} {te : TE} {k : Nat} {p1 p2 p3 pos : Pos} (hK : X.K = K) (he : PE X e te) : PE X (.Subscript e (.Slice none none (some (.UnaryOp .USub (.Constant (.int 1) k p1) p2)) p3) pos) (tRevT K te) := by
  subst hK
  refine ⟨fun pins s σ H Q I h => ?_⟩
  refine Subscript_ (thn (he.run pins s σ H _ I h) fun v s1 ⟨x, H1, I1, r1, q1⟩ => ?_)
  obtain ⟨a, xs, ex, hx, q⟩ := q1
  subst ex
  cases r1
  have hst : PO X (some (.UnaryOp .USub (.Constant (.int 1) k p1) p2)) (tPart (tUn (rU fun i => .int (-i)) (tC (.int 1)))) := po_some (pe_un un_neg pe_int)
  refine wpAny_Slice (thn (po_none.run pins s1 σ H1 (fun o H2 => o = none ∧ H2 = H1) I1 ⟨rfl, rfl⟩) fun vl s2 ⟨l, H2, I2, pl, el, e2⟩ => ?_)
  subst el e2
  refine thn (po_none.run pins s2 σ H2 (fun o H3 => o = none ∧ H3 = H2) I2 ⟨rfl, rfl⟩) fun vu s3 ⟨u, H3, I3, pu, eu, e3⟩ => ?_
  subst eu e3
  refine thn (hst.run pins s3 σ H3 (fun o H4 => o = some (-1) ∧ H4 = H3) I3 ⟨1, rfl, -1, rfl, rfl, rfl⟩) fun vs s4 ⟨o, H4, I4, ps, eo, e4⟩ => ?_
  subst eo e4
  have I5 : Inv X pins σ H4 { s4 with heap := s4.heap.push { cls := .type "slice", data := .fields #[vl, vu, vs] } } := I4.kept (t' := s4.toks) fun b ob q => Heap.get?_push_of_some _ q
  obtain ⟨its, r, ht, hz⟩ := I5.tuple hx
  have hlen := r.length
  show wpAny (model X.prog X.w) X.A (subscriptTail e (.Slice none none (some (.UnaryOp .USub (.Constant (.int 1) k p1) p2)) p3) (.ref a) (.ref s4.heap.objs.size)) (EP X pins σ Q) X.xe { s4 with heap := s4.heap.push { cls := .type "slice", data := .fields #[vl, vu, vs] } }
  refine tail_any (ops := [.ref a, .ref s4.heap.objs.size]) ht.typeIs PyProof.Rows.slot_tuple_getitem.lookup ?_ (by with_unfolding_all rfl)
  refine getItem_tuple_rev ht (Heap.IsSliceOf.new _ vl vu vs) pl pu ps ?_ (by rw [List.size_toArray]; omega)
  refine ⟨.ref _, _, I5.laid (t' := s4.toks) (o := .tup xs.reverse) (fun b ob q => Heap.get?_push_of_some _ q) (Nat.le_refl _) ?_, rfl, q _ (I5.hok.fresh (Nat.le_refl _))⟩
  exact ⟨by rw [List.length_reverse]; exact hz, _, r.reverse, IsTup.new _ _⟩
end Sg
set_option Elab.async false
set_option linter.all false
set_option maxRecDepth 100000
set_option maxHeartbeats 4000000
set_option Elab.async false
set_option linter.all false
set_option maxRecDepth 100000
set_option maxHeartbeats 4000000
set_option Elab.async false
set_option linter.all false
set_option maxRecDepth 100000
set_option maxHeartbeats 4000000
set_option Elab.async false
set_option linter.all false
set_option maxRecDepth 100000
set_option maxHeartbeats 4000000
namespace Sg
open PySem PySem.Spec PyProof.Rows L2
/-! ## heaps -/
/-- all but p is as it was -/
def But (p : Addr) (H H' : Hp) : Prop := ∀ q o, q ≠ p → H q = some o → H' q = some o
theorem But.trans {p : Addr} {H H1 H2 : Hp} (a : But p H H1) (b : But p H1 H2) : But p H H2 := fun q o n h => b q o n (a q o n h)
theorem But.of {p : Addr} {H H' : Hp} (a : Same H H') : But p H H' := fun q o _ h => a q o h
theorem But.upd {p : Addr} {H : Hp} {o : HO} : But p H (upd H p o) := fun q u n h => by rw [upd_ne n]; exact h
theorem same_new {H : Hp} {p : Addr} {o : HO} (h : H p = none) : Same H (upd H p o) := fun b x e => by
  rw [upd_ne (ne_of_none e h)]
  exact e
/-- what is new behind a But is new ahead -/
theorem But.free {p q : Addr} {H H' : Hp} {u : HO} (e : But p H H') (hp : H p = some u) (hp' : ∃ v, H' p = some v) (h : H' q = none) : H q = none := by
  by_cases n : q = p
  · subst n
    obtain ⟨v, hv⟩ := hp'
    rw [hv] at h
    exact nomatch h
  · rcases z : H q with _ | o
    · rfl
    · rw [e q o n z] at h
      exact nomatch h
theorem But.tup {K : PySem.W.Frag} {p : Addr} {H H' : Hp} {a : Addr} {xs ys : List V} (e : But p H H') (hp : H p = some (.lst ys)) (h : SqT K H a xs) : SqT K H' a xs := by
  rcases h with (h | ⟨o, h⟩) | h
  · exact .inl (.inl (e _ _ (ne_of h hp (fun z => nomatch z)) h))
  · exact .inl (.inr ⟨o, e _ _ (ne_of h hp (fun z => nomatch z)) h⟩)
  · exact .inr h
theorem Same.tup {K : PySem.W.Frag} {H H' : Hp} {a : Addr} {xs : List V} (e : Same H H') (h : SqT K H a xs) : SqT K H' a xs := by
  rcases h with (h | ⟨o, h⟩) | h
  · exact .inl (.inl (e _ _ h))
  · exact .inl (.inr ⟨o, e _ _ h⟩)
  · exact .inr h
/-- a pen at p -/
def PenAt (H : Hp) (p : Addr) : Prop := ∃ a b c : Int, H p = some (.lst [.int a, .int b, .int c]) ∧ 0 ≤ b ∧ b < 2147483648
theorem PenAt.same {H H' : Hp} {p : Addr} (h : PenAt H p) (e : Same H H') : PenAt H' p := by
  obtain ⟨a, b, c, h1, h2⟩ := h
  exact ⟨a, b, c, e _ _ h1, h2⟩
theorem PenAt.tup {K : PySem.W.Frag} {p : Addr} {H H' : Hp} {a : Addr} {xs : List V} (h : PenAt H p) (e : But p H H') (q : SqT K H a xs) : SqT K H' a xs := by
  obtain ⟨_, _, _, h1, _⟩ := h
  exact e.tup h1 q
theorem PenAt.free {p q : Addr} {H H' : Hp} (h : PenAt H p) (h' : PenAt H' p) (e : But p H H') (n : H' q = none) : H q = none := by
  obtain ⟨_, _, _, h1, _⟩ := h
  obtain ⟨_, _, _, h2, _⟩ := h'
  exact e.free h1 ⟨_, h2⟩ n
theorem atI0 {x : V} {r : List V} : atI (x :: r) 0 = some x := atI_nat (j := 0) rfl
theorem atI1 {x y : V} {r : List V} : atI (x :: y :: r) 1 = some y := atI_nat (j := 1) rfl
theorem atI2 {x y z : V} {r : List V} : atI (x :: y :: z :: r) 2 = some z := atI_nat (j := 2) rfl
end Sg
set_option Elab.async false
set_option linter.all false
set_option maxRecDepth 100000
set_option maxHeartbeats 4000000
namespace Sg
open PySem PySem.Spec PyProof.Rows L2
/-! ## the mathematics of bars -/
/-- a work, as its items -/
structure IsWork (ns : List Int) : Prop where
  pos : 1 ≤ ns.length
  most : ns.length ≤ 60
  items : ∀ x ∈ ns, -1 ≤ x ∧ x ≤ 9
  head : ∀ x, ns[0]? = some x → x ≠ -1
  last : ∀ x, ns[ns.length - 1]? = some x → x ≠ -1
/-- a piece of other, d ticks behind one of one, clashes with it -/
def clashB (one other : List Int) (d : Nat) : Bool := ((one.drop d).zip other).any fun p => p.1 == p.2 && p.1 != -1
def barsN (one other : List Int) : List Nat := (List.range' 1 (one.length - 1)).filter (clashB one other)
/-! ### lists step by step -/
theorem filter_range'_succ (f : Nat → Bool) (a n : Nat) : (List.range' a (n + 1)).filter f = (List.range' a n).filter f ++ (if f (a + n) = true then [a + n] else []) := by
  rw [List.range'_concat, List.filter_append, Nat.one_mul]
  congr 1
  by_cases h : f (a + n) = true
  · rw [if_pos h, List.filter_cons_of_pos h]; rfl
  · rw [if_neg h, List.filter_cons_of_neg h]; rfl
/-- the bars found below 1 + n -/
def barsTo (one other : List Int) (n : Nat) : List Nat := (List.range' 1 n).filter (clashB one other)
theorem barsTo_len (one other : List Int) (n : Nat) : (barsTo one other n).length ≤ n := by
  unfold barsTo
  refine Nat.le_trans (List.length_filter_le _ _) ?_
  rw [List.length_range']
  exact Nat.le_refl _
abbrev nV (l : List Nat) : List V := l.map fun d => V.int (d : Nat)
theorem barsTo_yes {one other : List Int} {n : Nat} (h : clashB one other (1 + n) = true) : nV (barsTo one other (n + 1)) = nV (barsTo one other n) ++ [.int ((1 : Int) + n)] := by
  unfold nV barsTo
  rw [filter_range'_succ, if_pos h, List.map_append]
  have e : (((1 + n : Nat) : Int)) = (1 : Int) + n := by omega
  simp only [List.map_cons, List.map_nil, e]
theorem barsTo_no {one other : List Int} {n : Nat} (h : clashB one other (1 + n) = false) : barsTo one other (n + 1) = barsTo one other n := by
  unfold barsTo
  rw [filter_range'_succ, if_neg (by rw [h]; exact Bool.false_ne_true), List.append_nil]
/-- the pairs of a zip, looked at in turn -/
def hitsTo (one other : List Int) (d n : Nat) : List Bool := (((one.drop d).zip other).take n).map fun p => p.1 == p.2 && p.1 != -1
theorem hits_any (one other : List Int) (d : Nat) : (hitsTo one other d (min (one.drop d).length other.length)).any id = clashB one other d := by
  unfold hitsTo clashB
  rw [List.take_of_length_le (by rw [List.length_zip]; exact Nat.le_refl _), List.any_map]
  rfl
theorem hits_succ {one other : List Int} {d n : Nat} {x y : Int} (h1 : (one.drop d)[n]? = some x) (h2 : other[n]? = some y) : hitsTo one other d (n + 1) = hitsTo one other d n ++ [x == y && x != -1] := by
  unfold hitsTo
  rw [List.take_add_one, List.getElem?_zip_eq_some (z := (x, y)) |>.mpr ⟨h1, h2⟩, List.map_append]
  rfl
theorem hits_len (one other : List Int) (d n : Nat) : (hitsTo one other d n).length ≤ n := by
  unfold hitsTo
  rw [List.length_map, List.length_take]
  exact Nat.min_le_left _ _
end Sg
set_option Elab.async false
set_option linter.all false
set_option maxRecDepth 100000
set_option maxHeartbeats 4000000
namespace Sg
open PySem PySem.Spec PyProof.Rows L2
theorem walk_zipT {K : PySem.W.Frag} {a b : Addr} {xs ys : List V} {n : Nat} (hn : n = min xs.length ys.length) :
    Walk (RZ.ItzT K a b) n (fun H => SqT K H a xs ∧ SqT K H b ys) (YPair (fun i => xs[i]?) (fun i => ys[i]?)) := by
  subst hn
  constructor
  · intro i H hi q
    have h1 : i < xs.length := by omega
    have h2 : i < ys.length := by omega
    exact ⟨xs, ys, xs[i], ys[i], q.1, q.2, List.getElem?_eq_getElem h1, List.getElem?_eq_getElem h2⟩
  · intro H q
    exact ⟨xs, ys, q.1, q.2, by omega⟩
  · rintro i H v H' hi q ⟨T, x, z, h1, h2, h3, h4, h5⟩
    exact ⟨T, x, z, h1, h2, h3, h4 xs q.1, h5 ys q.2⟩
theorem cut_from (xs : List V) (d : Nat) : cutV xs (some (d : Int)) none = xs.drop d := by
  unfold cutV
  rw [HT.sIx_nat, HT.sIx_none]
  rcases Nat.le_total d xs.length with h | h
  · rw [Nat.min_eq_left h]
    exact List.take_of_length_le (by rw [List.length_drop]; exact Nat.le_refl _)
  · rw [Nat.min_eq_right h, List.drop_of_length_le (Nat.le_refl _), List.drop_of_length_le h]
    exact List.take_nil
section
variable {P : Program} {w : World} {K : PySem.W.Frag} {mg : Str → Option Value} {base : Heap}
theorem tyT {H : Hp} {a : Addr} {xs : List V} (h : SqT K H a xs) : TyX K H (.ref a) (.type "tuple") := by
  rcases h with (h | ⟨o, h⟩) | ⟨o, _, _, h, hc, _⟩
  · exact .base (.tup h)
  · exact .fTuple h
  · exact .kTuple h hc
/-- the module's numbers -/
structure Nums (mg : Str → Option Value) : Prop where
  nowhere : ∃ t, mg "NOWHERE" = some (.int (-1) t)
  stations : ∃ t, mg "STATIONS" = some (.int 10 t)
  most : ∃ t, mg "MOST_ITEMS" = some (.int 60 t)
def inR (x : Int) : Bool := decide (-1 ≤ x) && decide (x ≤ 9)
end
end Sg
set_option Elab.async false
set_option linter.all false
set_option maxRecDepth 100000
set_option maxHeartbeats 4000000
namespace Sg
open PySem PySem.Spec PyProof.Rows L2
/-! ## data that is shown -/
/-- data made of small ints, in lists and tuples, no deeper than n, of bulk b at most -/
structure Small (d : PyData) (n b : Nat) : Prop where
  sh : d.showable = true
  nd : d.hasDict = false
  dp : d.depth ≤ n
  lv : d.leavesShort 15 = true
  bk : d.bulk ≤ b
  ly : d.canLay0 = true
structure SmallAll (ds : List PyData) (n b : Nat) : Prop where
  sh : PyData.showableAll ds = true
  nd : PyData.hasDictAll ds = false
  dp : PyData.depthAll ds ≤ n
  lv : PyData.leavesShortAll 15 ds = true
  bk : PyData.bulkAll ds ≤ b
  ly : PyData.canLayAll0 ds = true
theorem Small.shaped {d : PyData} {n b : Nat} (h : Small d n b) (hn : n ≤ 64) : SeqAt.shaped d = true := by
  unfold SeqAt.shaped
  rw [h.ly, decide_eq_true (Nat.le_trans h.dp hn)]
  rfl
theorem Small.list {ds : List PyData} {n b : Nat} (h : SmallAll ds n b) : Small (.list ds) (n + 1) b :=
  ⟨by simpa only [PyData.showable] using h.sh, by simpa only [PyData.hasDict] using h.nd, by simpa only [PyData.depth] using Nat.succ_le_succ h.dp,
    by simpa only [PyData.leavesShort] using h.lv, by simpa only [PyData.bulk] using h.bk, by simpa only [PyData.canLay0] using h.ly⟩
theorem Small.tuple {ds : List PyData} {n b : Nat} (h : SmallAll ds n b) : Small (.tuple ds) (n + 1) b :=
  ⟨by simpa only [PyData.showable] using h.sh, by simpa only [PyData.hasDict] using h.nd, by simpa only [PyData.depth] using Nat.succ_le_succ h.dp,
    by simpa only [PyData.leavesShort] using h.lv, by simpa only [PyData.bulk] using h.bk, by simpa only [PyData.canLay0] using h.ly⟩
theorem SmallAll.nil {n b : Nat} : SmallAll [] n b := ⟨by simp only [PyData.showableAll], by simp only [PyData.hasDictAll], by simp only [PyData.depthAll]; exact Nat.zero_le _,
  by simp only [PyData.leavesShortAll], by simp only [PyData.bulkAll]; exact Nat.zero_le _, by simp only [PyData.canLayAll0]⟩
theorem SmallAll.cons {d : PyData} {ds : List PyData} {n b c : Nat} (h : Small d n b) (r : SmallAll ds n c) : SmallAll (d :: ds) n (b + 1 + c) :=
  ⟨by simp only [PyData.showableAll, h.sh, r.sh, Bool.and_self], by simp only [PyData.hasDictAll, h.nd, r.nd, Bool.or_self], by simp only [PyData.depthAll]; exact Nat.max_le.mpr ⟨h.dp, r.dp⟩,
    by simp only [PyData.leavesShortAll, h.lv, r.lv, Bool.and_self], by simp only [PyData.bulkAll]; have h1 := h.bk; have h2 := r.bk; omega, by simp only [PyData.canLayAll0, h.ly, r.ly, Bool.and_self]⟩
theorem Small.int {i : Int} {n b : Nat} (h1 : -99999999999999 ≤ i) (h2 : i ≤ 99999999999999) : Small (.int i) n b := by
  refine ⟨?_, by simp only [PyData.hasDict], by simp only [PyData.depth]; exact Nat.zero_le _, ?_, by simp only [PyData.bulk]; exact Nat.zero_le _, by simp only [PyData.canLay0]⟩
  · simp only [PyData.showable, decide_eq_true_eq]
    have h3 : i.natAbs < 2 ^ 47 := by omega
    have h4 := PySem.Flt.log2_lt_of (show 0 < 47 by decide) h3
    omega
  · simp only [PyData.leavesShort, decide_eq_true_eq]
    have h6 : i.natAbs < 10 ^ 14 := by
      have e : (10 : Nat) ^ 14 = 100000000000000 := by decide
      rw [e]
      omega
    have h5 := int_text_length_le10 (k := 14) (by decide) h6
    show (Str.ofString (toString i)).length ≤ 15
    rw [PySem.ofString_length]
    exact h5
theorem Small.mono {d : PyData} {n m b c : Nat} (h : Small d n b) (hn : n ≤ m) (hb : b ≤ c) : Small d m c := ⟨h.sh, h.nd, Nat.le_trans h.dp hn, h.lv, Nat.le_trans h.bk hb, h.ly⟩
theorem SmallAll.mono {d : List PyData} {n m b c : Nat} (h : SmallAll d n b) (hn : n ≤ m) (hb : b ≤ c) : SmallAll d m c := ⟨h.sh, h.nd, Nat.le_trans h.dp hn, h.lv, Nat.le_trans h.bk hb, h.ly⟩
abbrev iD (ns : List Int) : List PyData := ns.map PyData.int
theorem dpInts {K : PySem.W.Frag} {H : Hp} : ∀ (ns : List Int), DpAll K H (ns.map V.int) (iD ns)
  | [] => .nil
  | x :: r => .cons (.int x) (dpInts r)
abbrev nI (l : List Nat) : List Int := l.map fun d => ((d : Nat) : Int)
theorem nV_eq (l : List Nat) : nV l = (nI l).map V.int := by rw [List.map_map]; rfl
section
variable {P : Program} {w : World} {K : PySem.W.Frag} {mg : Str → Option Value} {base : Heap}
/-! ### _law_same -/
theorem PenAt.upd {H : Hp} {p q : Addr} {o : HO} (h : PenAt H p) (n : p ≠ q) : PenAt (upd H q o) p := by
  obtain ⟨a, b, c, h1, h2⟩ := h
  exact ⟨a, b, c, by rw [upd_ne n]; exact h1, h2⟩
theorem PenAt.ne {H : Hp} {p q : Addr} (h : PenAt H p) (n : H q = none) : p ≠ q := by
  obtain ⟨a, b, c, h1, _⟩ := h
  exact ne_of_none h1 n
end
end Sg
set_option Elab.async false
set_option linter.all false
set_option maxRecDepth 100000
set_option maxHeartbeats 4000000
namespace Sg
open PySem PySem.Spec PyProof.Rows L2
/-! ## data of ints and tuples alone -/
section
variable {K : PySem.W.Frag} {H H' : Hp}
mutual
inductive Tp (K : PySem.W.Frag) (H : Hp) : V → PyData → Prop
  | int (i : Int) : Tp K H (.int i) (.int i)
  | tu {a : Addr} {xs : List V} {ds : List PyData} : SqT K H a xs → TpAll K H xs ds → Tp K H (.ref a) (.tuple ds)
inductive TpAll (K : PySem.W.Frag) (H : Hp) : List V → List PyData → Prop
  | no : TpAll K H [] []
  | on {v : V} {vs : List V} {d : PyData} {ds : List PyData} : Tp K H v d → TpAll K H vs ds → TpAll K H (v :: vs) (d :: ds)
end
mutual
theorem Tp.dp : ∀ {v : V} {d : PyData}, Tp K H v d → Dp K H v d
  | _, _, .int i => .int i
  | _, _, .tu h r => .tup h (TpAll.dp r)
theorem TpAll.dp : ∀ {v : List V} {d : List PyData}, TpAll K H v d → DpAll K H v d
  | _, _, .no => .nil
  | _, _, .on a r => .cons (Tp.dp a) (TpAll.dp r)
end
/-- all tuples and all instances are as they were -/
structure St (K : PySem.W.Frag) (H H' : Hp) : Prop where
  tu : ∀ a xs, SqT K H a xs → SqT K H' a xs
  ob : ∀ a C dx fs, H a = some (.ins C dx fs) → H' a = some (.ins C dx fs)
theorem St.trans {H2 : Hp} (a : St K H H') (b : St K H' H2) : St K H H2 := ⟨fun _ _ h => b.tu _ _ (a.tu _ _ h), fun _ _ _ _ h => b.ob _ _ _ _ (a.ob _ _ _ _ h)⟩
theorem St.of (e : Same H H') : St K H H' := ⟨fun _ _ h => Same.tup e h, fun _ _ _ _ h => e _ _ h⟩
theorem St.but {p : Addr} {ys : List V} (e : But p H H') (hp : H p = some (.lst ys)) : St K H H' :=
  ⟨fun _ _ h => But.tup e hp h, fun a C dx fs h => e _ _ (fun z => by rw [z, hp] at h; exact nomatch h) h⟩
theorem St.pen {p : Addr} (e : But p H H') (hp : PenAt H p) : St K H H' := by
  obtain ⟨a, b, c, h, _⟩ := hp
  exact .but e h
mutual
theorem Tp.stayT (e : ∀ a xs, SqT K H a xs → SqT K H' a xs) : ∀ {v : V} {d : PyData}, Tp K H v d → Tp K H' v d
  | _, _, .int i => .int i
  | _, _, .tu h r => .tu (e _ _ h) (TpAll.stayT e r)
theorem TpAll.stayT (e : ∀ a xs, SqT K H a xs → SqT K H' a xs) : ∀ {v : List V} {d : List PyData}, TpAll K H v d → TpAll K H' v d
  | _, _, .no => .no
  | _, _, .on a r => .on (Tp.stayT e a) (TpAll.stayT e r)
end
theorem tu_ins {p C dx : Addr} {fs : List (Str × V)} {o : HO} (hp : H p = some (.ins C dx fs)) : ∀ a xs, SqT K H a xs → SqT K (upd H p o) a xs := by
  intro a xs h
  have ne : ∀ u, H a = some u → (∀ C dx fs, u ≠ .ins C dx fs) → a ≠ p := fun u hu n z => by
    rw [z, hp] at hu
    exact n _ _ _ (Option.some.inj hu).symm
  exact h.imp (fun z => z.imp (fun z => by rw [upd_ne (ne _ z (fun _ _ _ q => nomatch q))]; exact z) fun ⟨u, z⟩ => ⟨u, by rw [upd_ne (ne _ z (fun _ _ _ q => nomatch q))]; exact z⟩) id
mutual
theorem Tp.stay (e : St K H H') : ∀ {v : V} {d : PyData}, Tp K H v d → Tp K H' v d
  | _, _, .int i => .int i
  | _, _, .tu h r => .tu (e.tu _ _ h) (TpAll.stay e r)
theorem TpAll.stay (e : St K H H') : ∀ {v : List V} {d : List PyData}, TpAll K H v d → TpAll K H' v d
  | _, _, .no => .no
  | _, _, .on a r => .on (Tp.stay e a) (TpAll.stay e r)
end
theorem TpAll.len : ∀ {vs : List V} {ds : List PyData}, TpAll K H vs ds → vs.length = ds.length
  | _, _, .no => rfl
  | _, _, .on _ r => congrArg (· + 1) (TpAll.len r)
theorem TpAll.at : ∀ {vs : List V} {ds : List PyData} {i : Nat} {v : V}, TpAll K H vs ds → vs[i]? = some v → ∃ d, ds[i]? = some d ∧ Tp K H v d
  | _, _, 0, _, .on a _, e => by cases e; exact ⟨_, rfl, a⟩
  | _, _, i + 1, _, .on _ r, e => TpAll.at (i := i) r e
theorem TpAll.add : ∀ {vs us : List V} {ds es : List PyData}, TpAll K H vs ds → TpAll K H us es → TpAll K H (vs ++ us) (ds ++ es)
  | _, _, _, _, .no, b => b
  | _, _, _, _, .on a r, b => .on a (TpAll.add r b)
theorem TpAll.cut : ∀ {vs : List V} {ds : List PyData} (n : Nat), TpAll K H vs ds → TpAll K H (vs.take n) (ds.take n)
  | _, _, 0, _ => .no
  | _, _, _ + 1, .no => .no
  | _, _, n + 1, .on a r => .on a (TpAll.cut n r)
theorem TpAll.off : ∀ {vs : List V} {ds : List PyData} (n : Nat), TpAll K H vs ds → TpAll K H (vs.drop n) (ds.drop n)
  | _, _, 0, r => r
  | _, _, _ + 1, .no => .no
  | _, _, n + 1, .on _ r => TpAll.off n r
theorem TpAll.ints : ∀ (ns : List Int), TpAll K H (ns.map V.int) (iD ns)
  | [] => .no
  | x :: r => .on (.int x) (TpAll.ints r)
theorem TpAll.isInts : ∀ {vs : List V} {ns : List Int}, TpAll K H vs (iD ns) → vs = ns.map V.int
  | _, [], .no => rfl
  | _, _ :: _, .on (.int _) r => by rw [TpAll.isInts r]; rfl
theorem Tp.ofInts {a : Addr} {ns : List Int} (h : SqT K H a (ns.map V.int)) : Tp K H (.ref a) (.tuple (iD ns)) := .tu h (TpAll.ints ns)
theorem Tp.toInts {v : V} {ns : List Int} (h : Tp K H v (.tuple (iD ns))) : ∃ a, v = .ref a ∧ SqT K H a (ns.map V.int) := by
  cases h with
  | tu h r => exact ⟨_, rfl, by rw [← TpAll.isInts r]; exact h⟩
theorem Tp.toTup {v : V} {ds : List PyData} (h : Tp K H v (.tuple ds)) : ∃ a xs, v = .ref a ∧ SqT K H a xs ∧ TpAll K H xs ds := by
  cases h with
  | tu h r => exact ⟨_, _, rfl, h, r⟩
end
/-! ## lines -/
/-- one to three works -/
structure GoodL (ws : List (List Int)) : Prop where
  least : 1 ≤ ws.length
  few : ws.length ≤ 3
  work : ∀ w ∈ ws, IsWork w
abbrev tD (ns : List Int) : PyData := .tuple (iD ns)
abbrev tDs (ws : List (List Int)) : List PyData := ws.map tD
abbrev cellD (a b : List Int) : PyData := tD (nI (barsN a b))
abbrev rowD (a : List Int) (ws : List (List Int)) : PyData := .tuple (ws.map (cellD a))
abbrev barD (ws : List (List Int)) : List PyData := ws.map fun a => rowD a ws
/-- the bars of all, row by row -/
def rowB (a : List Int) (ws : List (List Int)) : List Int := ws.flatMap fun b => nI (barsN a b)
def allB (ws vs : List (List Int)) : List Int := ws.flatMap fun a => rowB a vs
/-- the greatest, or 0 -/
structure Top (l : List Int) (m : Int) : Prop where
  pos : 0 ≤ m
  le : ∀ x ∈ l, x ≤ m
  eq : m = 0 ∨ m ∈ l
theorem Top.uniq {l k : List Int} {m n : Int} (h : Top l m) (g : Top k n) (e : ∀ x, x ∈ l ↔ x ∈ k) : m = n := by
  have a : m ≤ n := by
    rcases h.eq with z | z
    · rw [z]; exact g.pos
    · exact g.le _ ((e _).mp z)
  have b : n ≤ m := by
    rcases g.eq with z | z
    · rw [z]; exact h.pos
    · exact h.le _ ((e _).mpr z)
  omega
/-! ### the object -/
def lf (t b : Addr) (r : Int) : List (Str × V) := putF "_reach" (.int r) (putF "_bars" (.ref b) (putF "_works" (.ref t) []))
theorem k1 : ¬ (("_works" : Str) = "_bars") := by decide +kernel
theorem k2 : ¬ (("_works" : Str) = "_reach") := by decide +kernel
theorem k3 : ¬ (("_bars" : Str) = "_reach") := by decide +kernel
theorem lf_works (t b : Addr) (r : Int) : (lf t b r).lookup ("_works" : Str) = some (.ref t) := by
  unfold lf
  rw [lookup_putF, if_neg k2, lookup_putF, if_neg k1, lookup_putF, if_pos rfl]
theorem lf_bars (t b : Addr) (r : Int) : (lf t b r).lookup ("_bars" : Str) = some (.ref b) := by
  unfold lf
  rw [lookup_putF, if_neg k3, lookup_putF, if_pos rfl]
/-- a Line of these works stands at a -/
def LineAt (K : PySem.W.Frag) (C : Addr) (H : Hp) (a : Addr) (ws : List (List Int)) : Prop :=
  ∃ (dx t b : Addr) (r : Int), H a = some (.ins C dx (lf t b r)) ∧ Tp K H (.ref t) (.tuple (tDs ws)) ∧ Tp K H (.ref b) (.tuple (barD ws)) ∧ Top (allB ws ws) r ∧ GoodL ws
theorem LineAt.ins {K : PySem.W.Frag} {C a : Addr} {H : Hp} {ws : List (List Int)} (h : LineAt K C H a ws) : InsAt H C a := by
  obtain ⟨dx, t, b, r, h1, _⟩ := h
  exact ⟨_, _, h1⟩
theorem LineAt.good {K : PySem.W.Frag} {C a : Addr} {H : Hp} {ws : List (List Int)} (h : LineAt K C H a ws) : GoodL ws := by
  obtain ⟨dx, t, b, r, _, _, _, _, g⟩ := h
  exact g
theorem LineAt.stay {K : PySem.W.Frag} {C a : Addr} {H H' : Hp} {ws : List (List Int)} (e : St K H H') (h : LineAt K C H a ws) : LineAt K C H' a ws := by
  obtain ⟨dx, t, b, r, h1, h2, h3, h4, h5⟩ := h
  exact ⟨dx, t, b, r, e.ob _ _ _ _ h1, h2.stay e, h3.stay e, h4, h5⟩
theorem TpAll.works {K : PySem.W.Frag} {H : Hp} {vs : List V} {ws : List (List Int)} {i : Nat} {v : V} (h : TpAll K H vs (tDs ws)) (e : vs[i]? = some v) : ∃ w a, ws[i]? = some w ∧ v = .ref a ∧ SqT K H a (w.map V.int) := by
  obtain ⟨d, hd, t⟩ := h.at e
  rw [List.getElem?_map] at hd
  obtain ⟨w, hw, rfl⟩ := Option.map_eq_some_iff.mp hd
  obtain ⟨a, rfl, hs⟩ := t.toInts
  exact ⟨w, a, hw, rfl, hs⟩
end Sg
set_option Elab.async false
set_option linter.all false
set_option maxRecDepth 100000
set_option maxHeartbeats 4000000
namespace Sg
open PySem PySem.Spec PyProof.Rows L2
theorem call_tuple_ofK {X : Cx} {K : PySem.W.Frag} (hK : X.K = K) : CallR X (.type "tuple") (fun xs H Q => ∃ p ys, xs = [.ref p] ∧ ((SqL K H p ys ∧ ∀ l, H l = none → Q (.ref l) (upd H l (.tup ys))) ∨ (SqT K H p ys ∧ Q (.ref p) H))) := by
  subst hK; exact call_tuple_of
theorem pi_tupK {X : Cx} {K : PySem.W.Frag} {tg l : Expr} {tl : TE} (hK : X.K = K) (hl : PE X l tl) : PI X tg l (iTup K tl) := by
  subst hK; exact pi_tup hl
/-! ## a list of tuple data that grows -/
def Grow (K : PySem.W.Frag) (H1 : Hp) (D : Addr) (ds : List PyData) (i : Nat) (H' : Hp) : Prop := Same H1 H' ∧ ∃ acc, H' D = some (.lst acc) ∧ TpAll K H' acc (ds.take i)
theorem Grow.zero {K : PySem.W.Frag} {H1 : Hp} {D : Addr} {ds : List PyData} (hD : H1 D = none) : Grow K H1 D ds 0 (upd H1 D (.lst [])) :=
  ⟨same_new hD, [], upd_same, .no⟩
theorem Grow.next {K : PySem.W.Frag} {H1 H' H'' : Hp} {D : Addr} {ds : List PyData} {i : Nat} {d : PyData} {v : V} (hD : H1 D = none) (hz : ds.length ≤ 1000) (h : Grow K H1 D ds i H') (e : Same H' H'') (hd : ds[i]? = some d) (t : Tp K H'' v d) :
    ∃ acc, H'' D = some (.lst acc) ∧ acc.length < sizeLine ∧ Grow K H1 D ds (i + 1) (upd H'' D (.lst (acc ++ [v]))) := by
  obtain ⟨s1, acc, h1, h2⟩ := h
  have hD2 := e _ _ h1
  have st : St K H'' (upd H'' D (.lst (acc ++ [v]))) := .but (.upd) hD2
  refine ⟨acc, hD2, ?_, fun b o q => ?_, _, upd_same, ?_⟩
  · have z := h2.len
    have z2 : i < ds.length := (List.getElem?_eq_some_iff.mp hd).1
    rw [List.length_take] at z
    exact small1000 (by omega)
  · rw [upd_ne (ne_of_none q hD)]
    exact e _ _ (s1 _ _ q)
  · rw [List.take_add_one, hd]
    exact ((h2.stay (.of e)).stay st).add (.on (t.stay st) .no)
theorem Grow.done {K : PySem.W.Frag} {H1 H' : Hp} {D : Addr} {ds : List PyData} {n : Nat} (h : Grow K H1 D ds n H') (hn : n = ds.length) : Same H1 H' ∧ ∃ acc, H' D = some (.lst acc) ∧ TpAll K H' acc ds := by
  obtain ⟨s1, acc, h1, h2⟩ := h
  rw [hn, List.take_length] at h2
  exact ⟨s1, acc, h1, h2⟩
theorem Tp.new {K : PySem.W.Frag} {H : Hp} {l : Addr} {acc : List V} {ds : List PyData} (nl : H l = none) (t : TpAll K H acc ds) : Tp K (upd H l (.tup acc)) (.ref l) (.tuple ds) :=
  .tu (.of upd_same) (t.stay (.of (same_new nl)))
theorem GoodL.mem {ws : List (List Int)} (h : GoodL ws) {i : Nat} {w : List Int} (e : ws[i]? = Option.some w) : IsWork w := h.work w (List.mem_of_getElem? e)
theorem GoodL.lt {ws : List (List Int)} (h : GoodL ws) : (barD ws).length ≤ 1000 := by
  have := h.few
  rw [List.length_map]
  omega
/-- what the class has -/
structure LC (K : PySem.W.Frag) (mg : Str → Option Value) (C : Addr) : Prop where
  cl : Cls K C
  nW : NoAttr K C "_works"
  nB : NoAttr K C "_bars"
  nR : NoAttr K C "_reach"
  mgC : mg "Line" = some (.ref C)
end Sg
set_option Elab.async false
set_option linter.all false
set_option maxRecDepth 100000
set_option maxHeartbeats 4000000
set_option Elab.async false
set_option linter.all false
set_option maxRecDepth 100000
set_option maxHeartbeats 4000000
namespace Sg
open PySem PySem.Spec PyProof.Rows L2
theorem PenAt.new {H : Hp} {p l : Addr} {o : HO} (h : PenAt H p) (n : H l = none) : PenAt (L2.upd H l o) p := h.upd (h.ne n)
end Sg
set_option Elab.async false
set_option linter.all false
set_option maxRecDepth 100000
set_option maxHeartbeats 4000000
set_option Elab.async false
set_option linter.all false
set_option maxRecDepth 100000
set_option maxHeartbeats 4000000
namespace Sg
open PySem PySem.Spec PyProof.Rows L2 StX
/-! ## data compared -/
theorem eqv_ints : ∀ (xs ys : List Int), PyData.eqvAll (iD xs) (iD ys) = decide (xs = ys)
  | [], [] => by simp [PyData.eqvAll]
  | [], _ :: _ => by simp [PyData.eqvAll]
  | _ :: _, [] => by simp [PyData.eqvAll]
  | x :: xs, y :: ys => by
    show PyData.eqvAll (.int x :: iD xs) (.int y :: iD ys) = _
    rw [PyData.eqvAll, eqv_ints xs ys, PyData.eqv]
    by_cases h : x = y
    · subst h; simp
    · simp [h]
theorem eqv_tD (xs ys : List Int) : PyData.eqv (tD xs) (tD ys) = decide (xs = ys) := by
  show PyData.eqv (.tuple (iD xs)) (.tuple (iD ys)) = _
  rw [PyData.eqv, eqv_ints]
theorem eqv_tDs : ∀ (xs ys : List (List Int)), PyData.eqvAll (tDs xs) (tDs ys) = decide (xs = ys)
  | [], [] => by simp [PyData.eqvAll]
  | [], _ :: _ => by simp [PyData.eqvAll]
  | _ :: _, [] => by simp [PyData.eqvAll]
  | x :: xs, y :: ys => by
    show PyData.eqvAll (tD x :: tDs xs) (tD y :: tDs ys) = _
    rw [PyData.eqvAll, eqv_tDs xs ys, eqv_tD]
    by_cases h : x = y
    · subst h; simp
    · simp [h]
theorem lay_iD : ∀ (xs : List Int), PyData.canLayAll0 (iD xs) = true
  | [] => by simp [PyData.canLayAll0]
  | x :: r => by
    show PyData.canLayAll0 (.int x :: iD r) = true
    rw [PyData.canLayAll0, lay_iD r, PyData.canLay0]; rfl
theorem dep_iD : ∀ (xs : List Int), PyData.depthAll (iD xs) = 0
  | [] => by simp [PyData.depthAll]
  | x :: r => by
    show PyData.depthAll (.int x :: iD r) = 0
    rw [PyData.depthAll, dep_iD r, PyData.depth]; rfl
theorem lay_tDs : ∀ (xs : List (List Int)), PyData.canLayAll0 (tDs xs) = true
  | [] => by simp [PyData.canLayAll0]
  | x :: r => by
    show PyData.canLayAll0 (.tuple (iD x) :: tDs r) = true
    rw [PyData.canLayAll0, lay_tDs r, PyData.canLay0, lay_iD]; rfl
theorem dep_tDs : ∀ (xs : List (List Int)), PyData.depthAll (tDs xs) ≤ 1
  | [] => by simp [PyData.depthAll]
  | x :: r => by
    show PyData.depthAll (.tuple (iD x) :: tDs r) ≤ 1
    rw [PyData.depthAll, PyData.depth, dep_iD]
    exact Nat.max_le.mpr ⟨Nat.le_refl _, dep_tDs r⟩
theorem shaped_tDs (xs : List (List Int)) : SeqAt.shaped (.tuple (tDs xs)) = true := by
  unfold SeqAt.shaped
  have a : (PyData.tuple (tDs xs)).canLay0 = true := by rw [PyData.canLay0, lay_tDs]
  have b : (PyData.tuple (tDs xs)).depth ≤ 64 := by rw [PyData.depth]; have := dep_tDs xs; omega
  rw [a, decide_eq_true b]; rfl
end Sg
set_option Elab.async false
set_option linter.all false
set_option maxRecDepth 100000
set_option maxHeartbeats 4000000
set_option Elab.async false
set_option linter.all false
set_option maxRecDepth 100000
set_option maxHeartbeats 4000000
namespace Sg
open PySem PySem.Spec PyProof.Rows L2
/-! ## keys that are tuples of tuples -/
mutual
/-- the value v is the key k: an int, or a tuple of keys -/
inductive KeyAt (H : Hp) : NestedKey → V → Prop
  | int (i : Int) : KeyAt H (.num i) (.int i)
  | tup {a : Addr} {us : List V} {ks : List NestedKey} : H a = some (.tup us) → KeyAll H ks us → KeyAt H (.tup ks) (.ref a)
inductive KeyAll (H : Hp) : List NestedKey → List V → Prop
  | no : KeyAll H [] []
  | on {k : NestedKey} {v : V} {ks : List NestedKey} {us : List V} : KeyAt H k v → KeyAll H ks us → KeyAll H (k :: ks) (v :: us)
end
mutual
theorem KeyAt.keep {H H' : Hp} (e : ∀ a us, H a = some (.tup us) → H' a = some (.tup us)) : ∀ {k : NestedKey} {v : V}, KeyAt H k v → KeyAt H' k v
  | _, _, .int i => .int i
  | _, _, .tup h r => .tup (e _ _ h) (KeyAll.keep e r)
theorem KeyAll.keep {H H' : Hp} (e : ∀ a us, H a = some (.tup us) → H' a = some (.tup us)) : ∀ {ks : List NestedKey} {us : List V}, KeyAll H ks us → KeyAll H' ks us
  | _, _, .no => .no
  | _, _, .on a r => .on (KeyAt.keep e a) (KeyAll.keep e r)
end
mutual
theorem KeyAt.is {P : Program} {w : World} {H : Hp} {h : Heap} (ok : HOk P w H h) : ∀ {k : NestedKey} {v : V} {u : Value}, KeyAt H k v → RelV v u → NestedIs h k u
  | _, _, u, .int i, r => by
    obtain ⟨t, rfl⟩ := r
    exact .int i t
  | _, _, u, .tup (a := a) h' q, r => by
    obtain rfl : u = Value.ref a := r
    obtain ⟨_, its, rv, o, h1, h2, n, h3⟩ := (show ObjOk P w H h a (.tup _) from ok a _ h')
    exact .tup h1 h2 h3 (by rw [List.toList_toArray]; exact KeyAll.is ok q rv)
theorem KeyAll.is {P : Program} {w : World} {H : Hp} {h : Heap} (ok : HOk P w H h) : ∀ {ks : List NestedKey} {us : List V} {its : List Value}, KeyAll H ks us → Vals us its → NestedAll h ks its
  | _, _, _, .no, .nil => .nil
  | _, _, _, .on a r, .cons b q => .cons (KeyAt.is ok a b) (KeyAll.is ok r q)
end
/-! ## a dict with such keys: its rows (key, where the key stands, value) -/
abbrev Row := NestedKey × Addr × V
def DN (P : Program) (w : World) (a : Addr) (rs : List Row) : HO := .ext fun h => rs.length ≤ sizeLine ∧ (a == sysModules) = false ∧
  ∃ ys : List (NestedKey × Addr × Value), Paired (fun r y => r.1 = y.1 ∧ r.2.1 = y.2.1 ∧ RelV r.2.2 y.2.2) rs ys ∧
    ∃ o es ep, h.get? a = some o ∧ o.ExactDict ∧ o.data = .dict es ep ∧ es.toList = ys.map (entryOfKey (nestedKind P w)) ∧ (ys.map (·.1)).Nodup
def KeysIn (H : Hp) (rs : List Row) : Prop := ∀ r ∈ rs, KeyAt H r.1 (.ref r.2.1) ∧ r.1.depth ≤ 8
theorem KeysIn.keep {H H' : Hp} {rs : List Row} (h : KeysIn H rs) (e : ∀ a us, H a = some (.tup us) → H' a = some (.tup us)) : KeysIn H' rs := fun r hr => ⟨(h r hr).1.keep e, (h r hr).2⟩
abbrev RowRel : Row → NestedKey × Addr × Value → Prop := fun r y => r.1 = y.1 ∧ r.2.1 = y.2.1 ∧ RelV r.2.2 y.2.2
section
variable {P : Program} {w : World} {H : Hp} {h : Heap} {a : Addr} {rs : List Row}
theorem dn_of (ok : HOk P w H h) (e : H a = some (DN P w a rs)) (ks : KeysIn H rs) : rs.length ≤ sizeLine ∧ (a == sysModules) = false ∧ ∃ ys, Paired RowRel rs ys ∧ h.DictOfH (nestedKind P w) a ys := by
  obtain ⟨z, y, ys, r, o, es, ep, h1, h2, h3, h4, h5⟩ := (ok a _ e).1
  refine ⟨z, y, ys, r, o, es, ep, h1, h2, h3, h4, ?_, h5⟩
  have all : ∀ {l : List Row} {m : List (NestedKey × Addr × Value)}, Paired RowRel l m → KeysIn H l → ∀ x ∈ m, (nestedKind P w).is h x.1 x.2.1 := by
    intro l m q
    induction q with
    | nil => intro _ x hx; exact nomatch hx
    | @cons p q ps qs hq t ih =>
      intro hk x hx
      rcases List.mem_cons.mp hx with e | hx
      · subst e
        obtain ⟨k1, k2⟩ := hk p List.mem_cons_self
        have := k1.is ok (u := .ref p.2.1) rfl
        rw [hq.1, hq.2.1] at this
        exact ⟨this, by rw [← hq.1]; exact k2⟩
      · exact ih (fun r hr => hk r (List.mem_cons_of_mem _ hr)) x hx
  exact all r ks
end
section
variable {X : Cx} {pins : List (Addr × Obj)} {σ : L2.St} {H : Hp} {s : Shared} {a b : Addr} {k : NestedKey} {rs : List Row} {v : V} {r : Value} {A : Around} {E : Value → Shared → Prop}
/-- the key at b is looked for in the dict at a -/
structure NAt (P : Program) (w : World) (H : Hp) (a b : Addr) (k : NestedKey) (rs : List Row) : Prop where
  at_ : H a = some (DN P w a rs)
  keys : KeysIn H rs
  key : KeyAt H k (.ref b)
  deep : k.depth ≤ 8
theorem NAt.is {P : Program} {w : World} {h : Heap} (n : NAt P w H a b k rs) (ok : HOk P w H h) : (nestedKind P w).is h k b := ⟨n.key.is ok rfl, n.deep⟩
end
/-! ### as rules -/
section
variable {X : Cx} {o i e value : Expr} {pos pos' : Pos} {td ty tv : TE}
theorem NAt.typeIs {pins : List (Addr × Obj)} {σ : L2.St} {H : Hp} {s : Shared} {a b : Addr} {k : NestedKey} {rs : List Row} (n : NAt X.prog X.w H a b k rs) (I : Inv X pins σ H s) : s.TypeIs (.ref a) "dict" := by
  obtain ⟨_, _, ys, _, dd⟩ := dn_of I.hok n.at_ n.keys
  exact dd.typeIs
end
end Sg
set_option Elab.async false
set_option linter.all false
set_option maxRecDepth 100000
set_option maxHeartbeats 4000000
namespace Sg
open PySem PySem.Spec PyProof.Rows L2
/-! ## the law's own call, where defs of it make lambdas: their tables of code objects are known to be empty -/
/-- the tables' places -/
abbrev Pl (cs : List (Addr × Addr)) : List Addr := cs.map (·.2)
section
variable {P : Program} {w : World} {K : PySem.W.Frag} {mg mb : Str → Option Value} {k : Nat} {fa a : Addr} {cs : List (Addr × Addr)}
variable {fd : FuncData} {x : Str} {sp : Sp} {s₁ : Shared} {vs : List Value} {ns : List Int}
/-- what stands in such a heap: the script, perhaps, and the tables -/
structure TabH (cs : List (Addr × Addr)) (a : Addr) (H : Hp) : Prop where
  tab : ∀ p ∈ cs, H p.2 = some (.tbl #[])
  only : ∀ b u, H b = some u → (b = a ∧ ∃ o xs, u = .frz o (.lst xs)) ∨ (b ∈ Pl cs ∧ u = .tbl #[])
theorem call_tabs {H : Hp} (KX : K.In s₁.heap) (hns : s₁.heap.Ns mainGlobals mg) (hb : s₁.heap.Ns builtinsNs mb)
    (hbb : ∀ x : Str, x ≠ "__name__" → mb x = bootBuiltins x) (hlim : s₁.heap.NoLimit) (hg : s₁.gens = #[])
    (hbm : ∃ (bm : Addr) (ob : Obj), mg "__builtins__" = some (.ref bm) ∧ bm ≠ builtinsNs ∧ s₁.heap.get? bm = some ob ∧ ob.cls = .type "module" ∧ ob.dict = some builtinsNs ∧ ob.data = .plain)
    (hT : ∀ p ∈ cs, PySem.W.CodeHd s₁.heap p.1 p.2 ∧ s₁.heap.get? p.2 = some { cls := .none, data := .fields #[] } ∧ K.lookup p.2 = none)
    (ha : s₁.heap.get? a = some { cls := .type "list", data := .seq vs.toArray }) (hr : Room k callerA)
    (F : ∀ base : Heap, K.In base → base.Ns mainGlobals mg → (∀ p ∈ cs, LamX.TabB base mg p.1 p.2) → FnG P w K mg base k fa fd [x] sp)
    (hbind : ∀ (s : Shared) (u : Value), BindsTo s fd ⟨[u], []⟩ [(x, u)])
    (hsp : sp [.ref a] H (fun v _ => v = .bl true) E0) (hok : HOk P w H s₁.heap) (hH : TabH cs a H) (hK : H a ≠ none → K.lookup a = none) :
    codeAny (model P w) callerA (.call (.ref fa) ⟨[.ref a], []⟩) (Ended s₁) s₁ := by
  have inT : ∀ {b : Addr}, b ∈ Pl cs → s₁.heap.get? b = some { cls := .none, data := .fields #[] } ∧ K.lookup b = none := fun {b} h => by
    obtain ⟨p, hp, e⟩ := List.mem_map.mp h
    rw [← e]
    exact (hT p hp).2
  -- what is neither a list nor an empty table is not tracked
  have free : ∀ {b : Addr} {o : Obj}, s₁.heap.get? b = some o → (∀ vs n, o.data ≠ .seq vs n) → o.data ≠ .fields #[] → H b = none := by
    intro b o e h1 h2
    rcases q : H b with _ | u
    · rfl
    · rcases hH.only b u q with ⟨z, _⟩ | ⟨z, _⟩
      · rw [z, ha] at e
        rw [← Option.some.inj e] at h1
        exact absurd rfl (h1 _ _)
      · rw [(inT z).1] at e
        rw [← Option.some.inj e] at h2
        exact absurd rfl h2
  have dic : ∀ {b : Addr} {o : Obj} {es : Array DictEntry} {ep : Nat}, s₁.heap.get? b = some o → o.data = .dict es ep → H b = none := fun e d =>
    free e (fun _ _ z => by rw [d] at z; exact nomatch z) (fun z => by rw [d] at z; exact nomatch z)
  have nsK : ∀ {b : Addr} {m : Str → Option Value}, s₁.heap.Ns b m → (hidT s₁.heap H).Ns b m := by
    rintro b m ⟨o, es, ep, e, d, r⟩
    exact ⟨o, es, ep, hidT_get e (dic e d), d, r⟩
  have hKb : K.In (hidT s₁.heap H) := by
    intro b o e
    refine hidT_get (KX b o e) ?_
    rcases q : H b with _ | u
    · rfl
    · rcases hH.only b u q with ⟨z, _⟩ | ⟨z, _⟩
      · rw [z] at e q
        rw [hK (by rw [q]; exact fun y => nomatch y)] at e
        exact nomatch e
      · rw [(inT z).2] at e
        exact nomatch e
  have hM : Mod K mg (hidT s₁.heap H) := by
    refine ⟨hKb, nsK hns, ⟨mb, nsK hb, hbb⟩, ?_⟩
    obtain ⟨mc, h1, h2⟩ := hlim
    exact ⟨mc, nsK h1, h2⟩
  have TB : ∀ p ∈ cs, LamX.TabB (hidT s₁.heap H) mg p.1 p.2 := fun p hp => by
    obtain ⟨hC, hP, _⟩ := hT p hp
    have nG : mainGlobals ≠ p.2 := fun z => by
      obtain ⟨o, es, ep, e, hd, _⟩ := hns
      rw [z, hP] at e
      rw [← Option.some.inj e] at hd
      exact nomatch hd
    refine ⟨?_, ?_, nG⟩
    · obtain ⟨o, us, file, tf, flags, tg, inF, text, tt, e1, r1, r2, r3, rest⟩ := hC
      refine ⟨o, us, file, tf, flags, tg, inF, text, tt, hidT_get e1 (free e1 (fun _ _ z => ?_) fun z => ?_), r1, r2, r3, rest⟩
      · rw [r2] at z; exact nomatch z
      · rw [r2] at z
        rw [Data.fields.inj z] at r3
        exact absurd r3 (by simp)
    · obtain ⟨bm, ob, b1, b2, b3, b4, b5, b6⟩ := hbm
      refine ⟨bm, ob, b1, b2, fun z => ?_, fun z => ?_, hidT_get b3 (free b3 (fun _ _ z => ?_) fun z => ?_), b4, b5, b6⟩
      · obtain ⟨o, es, ep, e, hd, _⟩ := hns
        rw [← z, b3] at e
        rw [← Option.some.inj e, b6] at hd
        exact nomatch hd
      · rw [z, hP] at b3
        rw [← Option.some.inj b3] at b6
        exact nomatch b6
      · rw [b6] at z; exact nomatch z
      · rw [b6] at z; exact nomatch z
  have e0 : Env0 P w K mg (hidT s₁.heap H) callerA [] s₁ H :=
    ⟨rfl, hM, fun b o e => of_hidT e, Nat.le_of_eq (hidT_size _ _), trivial, fun b hb => (nomatch (show b ∈ ([] : List Addr) from hb)), hok, .of_eq hg⟩
  have run := (F _ hKb (nsK hns) TB).go callerA [] s₁ H ⟨[.ref a], []⟩ [.ref a] [.ref a] _ rfl hr e0 (hbind s₁ (.ref a)) (.cons rfl .nil) hsp
  refine codeAny_mono run ?_
  intro r s' h
  match r, h with
  | .error _, h => exact h.elim
  | .ok .next, h => exact h.elim
  | .ok .brk, h => exact h.elim
  | .ok .cont, h => exact h.elim
  | .ok (.ret u), h =>
    obtain ⟨v, H', os, bare, un, hok', ru, q⟩ := h
    obtain rfl : v = .bl true := q
    obtain rfl : u = Value.bool true := ru
    have kept : ∀ b o, b ∉ Pl cs → s₁.heap.get? b = some o → s'.heap.get? b = some o := by
      intro b o nb e
      rcases q : H b with _ | u
      · exact un.keep b o e q (fun z => nomatch (show b ∈ ([] : List Addr) from z)) (fun z => nomatch z)
      · rcases hH.only b u q with ⟨_, ob, xs, z⟩ | ⟨z, _⟩
        · rw [z] at q
          obtain ⟨e1, _⟩ := hok b _ q
          obtain ⟨e2, _⟩ := hok' b _ (un.frzs b ob _ q)
          rw [e] at e1
          rw [e2, Option.some.inj e1]
        · exact absurd z nb
    have more : ∀ p ∈ cs, ∃ ps : Array Value, s'.heap.get? p.2 = some { cls := .none, data := .fields ps } := fun p hp => by
      obtain ⟨ps, z⟩ := un.tbls p.2 #[] (hH.tab p hp)
      exact ⟨_, hok' p.2 _ z⟩
    refine ⟨rfl, ⟨fun b o e => ?_, fun b o e => ?_⟩, os, bare⟩
    · by_cases hb : b ∈ Pl cs
      · obtain ⟨p, hp, e'⟩ := List.mem_map.mp hb
        obtain ⟨ps, hm⟩ := more p hp
        obtain ⟨hC, hP, _⟩ := hT p hp
        rw [← e'] at e ⊢
        rw [hP] at e
        obtain rfl := Option.some.inj e
        exact .inr (.inl ⟨(hC.tab hP).isCodeTable, rfl, #[], ps, rfl, by rw [Array.empty_append]; exact hm⟩)
      · exact .inl (kept b o hb e)
    · by_cases hb : b ∈ Pl cs
      · obtain ⟨p, hp, e'⟩ := List.mem_map.mp hb
        rw [← e']
        obtain ⟨ps, hm⟩ := more p hp
        exact ⟨_, hm⟩
      · exact ⟨o, kept b o hb e⟩
/-- a def x of the text that makes lambdas: its code object, its table -/
structure LamDef (p : Program) (K : PySem.W.Frag) (x : Str) (c P : Addr) : Prop where
  there : ∃ d, (recsOf p).find? (fun e => e.name == x) = some d
  tab : PySem.W.tabIn K x = some (c, P)
  out : K.lookup P = none
theorem call_lawT (KX : K.In s₁.heap) (hns : s₁.heap.Ns mainGlobals mg) (hb : s₁.heap.Ns builtinsNs mb)
    (hbb : ∀ x : Str, x ≠ "__name__" → mb x = bootBuiltins x) (hlim : s₁.heap.NoLimit) (hg : s₁.gens = #[])
    (hbm : ∃ (bm : Addr) (ob : Obj), mg "__builtins__" = some (.ref bm) ∧ bm ≠ builtinsNs ∧ s₁.heap.get? bm = some ob ∧ ob.cls = .type "module" ∧ ob.dict = some builtinsNs ∧ ob.data = .plain)
    (hT : ∀ p ∈ cs, PySem.W.CodeHd s₁.heap p.1 p.2 ∧ s₁.heap.get? p.2 = some { cls := .none, data := .fields #[] } ∧ K.lookup p.2 = none)
    (ha : s₁.heap.get? a = some { cls := .type "list", data := .seq vs.toArray }) (hi : IntsAre vs ns)
    (hl : ns.length ≤ sizeLine) (hr : Room k callerA)
    (F : ∀ base : Heap, K.In base → base.Ns mainGlobals mg → (∀ p ∈ cs, LamX.TabB base mg p.1 p.2) → FnG P w K mg base k fa fd [x] sp)
    (hbind : ∀ (s : Shared) (u : Value), BindsTo s fd ⟨[u], []⟩ [(x, u)])
    (hsp : ∀ H : Hp, (∀ p ∈ cs, H p.2 = some (.tbl #[])) → SqL K H a (ns.map V.int) → sp [.ref a] H (fun v _ => v = .bl true) E0) :
    codeAny (model P w) callerA (.call (.ref fa) ⟨[.ref a], []⟩) (Ended s₁) s₁ := by
  have rv := vals_ints hi
  have lenV := hi.length
  have naT : a ∉ Pl cs := fun z => by
    obtain ⟨p, hp, e⟩ := List.mem_map.mp z
    have h := (hT p hp).2.1
    rw [e, ha] at h
    have h' := congrArg Obj.data (Option.some.inj h)
    exact nomatch (show Data.seq vs.toArray _ = Data.fields #[] from h')
  have inT : ∀ {b : Addr}, b ∈ Pl cs → s₁.heap.get? b = some { cls := .none, data := .fields #[] } := fun {b} h => by
    obtain ⟨p, hp, e⟩ := List.mem_map.mp h
    rw [← e]
    exact (hT p hp).2.1
  have mem : ∀ p ∈ cs, p.2 ∈ Pl cs := fun p hp => List.mem_map.mpr ⟨p, hp, rfl⟩
  rcases hk : K.lookup a with _ | o
  · -- the script is tracked
    let H : Hp := fun b => if b = a then some (.frz { cls := .type "list", data := .seq vs.toArray } (.lst (ns.map V.int))) else if b ∈ Pl cs then some (.tbl #[]) else none
    have at_a : H a = some (.frz { cls := .type "list", data := .seq vs.toArray } (.lst (ns.map V.int))) := if_pos rfl
    have at_t : ∀ b, b ∈ Pl cs → H b = some (.tbl #[]) := fun b hb => by
      have nb : b ≠ a := fun z => naT (z ▸ hb)
      show (if b = a then _ else if b ∈ Pl cs then some (HO.tbl #[]) else none) = _
      rw [if_neg nb, if_pos hb]
    have off : ∀ b, b ≠ a → b ∉ Pl cs → H b = none := fun b h1 h2 => by
      show (if b = a then _ else if b ∈ Pl cs then some (HO.tbl #[]) else none) = _
      rw [if_neg h1, if_neg h2]
    have hH : TabH cs a H := ⟨fun p hp => at_t _ (mem p hp), fun b u z => by
      by_cases h1 : b = a
      · subst h1
        rw [at_a] at z
        exact .inl ⟨rfl, _, _, (Option.some.inj z).symm⟩
      · by_cases h2 : b ∈ Pl cs
        · rw [at_t b h2] at z
          exact .inr ⟨h2, (Option.some.inj z).symm⟩
        · rw [off b h1 h2] at z
          exact nomatch z⟩
    refine call_tabs (H := H) KX hns hb hbb hlim hg hbm hT ha hr F hbind (hsp H hH.tab (.inl (.inr ⟨_, at_a⟩))) ?_ hH (fun _ => hk)
    intro b u z
    by_cases h1 : b = a
    · subst h1
      rw [at_a] at z
      obtain rfl := Option.some.inj z
      exact ⟨ha, by rw [List.length_map]; exact hl, vs, _, rv, ha⟩
    · by_cases h2 : b ∈ Pl cs
      · rw [at_t b h2] at z
        obtain rfl := Option.some.inj z
        exact inT h2
      · rw [off b h1 h2] at z
        exact nomatch z
  · -- the script is of the written part
    have e := KX a o hk
    rw [ha] at e
    obtain rfl := Option.some.inj e
    let H : Hp := fun b => if b ∈ Pl cs then some (.tbl #[]) else none
    have at_t : ∀ b, b ∈ Pl cs → H b = some (.tbl #[]) := fun b hb => if_pos hb
    have off : ∀ b, b ∉ Pl cs → H b = none := fun b h2 => if_neg h2
    have hH : TabH cs a H := ⟨fun p hp => at_t _ (mem p hp), fun b u z => by
      by_cases h2 : b ∈ Pl cs
      · rw [at_t b h2] at z
        exact .inr ⟨h2, (Option.some.inj z).symm⟩
      · rw [off b h2] at z
        exact nomatch z⟩
    refine call_tabs (H := H) KX hns hb hbb hlim hg hbm hT ha hr F hbind (hsp H hH.tab (.inr ⟨_, vs.toArray, _, hk, rfl, rfl, rfl, by rw [List.size_toArray, lenV]; exact hl, rv⟩)) ?_ hH (fun z => absurd (off a naT) z)
    intro b u z
    by_cases h2 : b ∈ Pl cs
    · rw [at_t b h2] at z
      obtain rfl := Option.some.inj z
      exact inT h2
    · rw [off b h2] at z
      exact nomatch z
end
/-- the end of such a law's proof -/
theorem walk_lawT {l : PySem.W.OpenLaw} {k : Nat} {q : Program} {loose : List Str} {XP : (Str → Option Value) → Heap → Prop}
    {YP : World → Heap → Prop} {d : DefRec} {K : Params → PySem.W.Frag} {sp : List (Addr × Addr) → PySem.W.Frag → Sp} {x : Str}
    (hn : l.most = some 63) (hdf : d.params.defaults = []) (hr : Room k callerA)
    (hY : ∀ (w : World) (h : Heap), YP w h → (K w.params).In h)
    (F : ∀ (w : World) (mg : Str → Option Value) (fa : Addr) (h : Heap), (K w.params).In h → h.Ns mainGlobals mg →
      mg d.name = some (.ref fa) → ∃ (cs : List (Addr × Addr)) (fd : FuncData), (∀ p ∈ cs, ∃ y, LamDef q (K w.params) y p.1 p.2) ∧ (∀ (s : Shared) (u : Value), BindsTo s fd ⟨[u], []⟩ [(x, u)]) ∧
        ∀ base : Heap, (K w.params).In base → base.Ns mainGlobals mg → (∀ p ∈ cs, LamX.TabB base mg p.1 p.2) →
          FnG l.prog w (K w.params) mg base k fa fd [x] (sp cs (K w.params)))
    (hsp : ∀ (cs : List (Addr × Addr)) (K : PySem.W.Frag) (H : Hp) (a : Addr) (ns : List Int), ns.length ≤ 63 → (∀ p ∈ cs, H p.2 = some (.tbl #[])) → SqL K H a (ns.map V.int) →
      sp cs K [.ref a] H (fun v _ => v = .bl true) E0) :
    PySem.W.WalkO q loose XP YP l.row.toRowW d [] (fun f vs => PySem.call f vs) := by
  refine Att.attach_call hn hdf ?_
  intro w s₀ s₁ mg mb fa o pm cd doc a vs ns G Y ho hd hcd hmg hobj hints hlen hg
  obtain ⟨cs, fd, hL, hb, hF⟩ := F w mg fa _ (hY w _ Y) G.T.g hmg
  refine call_lawT (hY w _ Y) G.T.g G.T.b G.T.builtins G.T.nolimit hg G.T.bmain (fun p hp => ?_) hobj hints
    (Nat.le_trans hlen (by decide)) hr hF hb (fun H hO hS => hsp cs _ H a ns hlen hO hS)
  obtain ⟨y, ⟨d', hrec⟩, htab, hout⟩ := hL p hp
  obtain ⟨h1, h2⟩ := PySem.W.tab_of G.T (hY w _ Y) hrec htab
  exact ⟨h1, h2, hout⟩
end Sg
set_option Elab.async false
set_option linter.all false
set_option maxRecDepth 100000
set_option maxHeartbeats 4000000
namespace Sg
open PySem PySem.Spec PyProof.Rows L2
/-! ## any data -/
mutual
theorem Dp.same {K : PySem.W.Frag} {H H' : Hp} (e : Same H H') : ∀ {v : V} {d : PyData}, Dp K H v d → Dp K H' v d
  | _, _, .non => .non
  | _, _, .bl b => .bl b
  | _, _, .int i => .int i
  | _, _, .str x => .str x
  | _, _, .lst h r => .lst (e.seq h) (DpAll.same e r)
  | _, _, .tup h r => .tup (Same.tup e h) (DpAll.same e r)
theorem DpAll.same {K : PySem.W.Frag} {H H' : Hp} (e : Same H H') : ∀ {vs : List V} {ds : List PyData}, DpAll K H vs ds → DpAll K H' vs ds
  | _, _, .nil => .nil
  | _, _, .cons a r => .cons (Dp.same e a) (DpAll.same e r)
end
theorem DpAll.app {K : PySem.W.Frag} {H : Hp} : ∀ {vs us : List V} {ds es : List PyData}, DpAll K H vs ds → DpAll K H us es → DpAll K H (vs ++ us) (ds ++ es)
  | _, _, _, _, .nil, g => g
  | _, _, _, _, .cons a r, g => .cons a (DpAll.app r g)
theorem DpAll.len {K : PySem.W.Frag} {H : Hp} : ∀ {vs : List V} {ds : List PyData}, DpAll K H vs ds → vs.length = ds.length
  | _, _, .nil => rfl
  | _, _, .cons _ r => congrArg (· + 1) (DpAll.len r)
theorem DpAll.at {K : PySem.W.Frag} {H : Hp} : ∀ {vs : List V} {ds : List PyData} {i : Nat} {v : V}, DpAll K H vs ds → vs[i]? = some v → ∃ d, ds[i]? = some d ∧ Dp K H v d
  | _, _, _, _, .nil, h => nomatch h
  | _, _, 0, _, .cons a _, h => by cases h; exact ⟨_, rfl, a⟩
  | _, _, i + 1, _, .cons _ r, h => DpAll.at (i := i) r h
theorem DpAll.mem {K : PySem.W.Frag} {H : Hp} {vs : List V} {ds : List PyData} (h : DpAll K H vs ds) {v : V} (hv : v ∈ vs) : ∃ d ∈ ds, Dp K H v d := by
  obtain ⟨i, hi⟩ := List.mem_iff_getElem?.mp hv
  obtain ⟨d, h1, h2⟩ := DpAll.at h hi
  exact ⟨d, List.mem_of_getElem? h1, h2⟩
/-! ints and tuples of them: nothing that changes is read -/
mutual
theorem Tp.reads0 {X : Cx} {pins : List (Addr × Obj)} {σ : L2.St} {H : Hp} {s : Shared} (I : Inv X pins σ H s) : ∀ (d : PyData) (v : V) (u : Value), Tp X.K H v d → RelV v u → Reads s.heap u d []
  | .int i, _, _, h, r => by
    cases h
    obtain ⟨t, rfl⟩ := r
    exact .int i t
  | .tuple ds, _, _, h, r => by
    cases h with
    | tu hs ha =>
      cases r
      obtain ⟨its, rv, ⟨o, ho, hc, n, hd⟩, _⟩ := I.tuple hs
      exact .tuple ho hc hd (TpAll.reads0 I ds _ its ha rv)
  | .none, _, _, h, _ => by cases h
  | .bool _, _, _, h, _ => by cases h
  | .str _, _, _, h, _ => by cases h
  | .list _, _, _, h, _ => by cases h
  | .dict _, _, _, h, _ => by cases h
theorem TpAll.reads0 {X : Cx} {pins : List (Addr × Obj)} {σ : L2.St} {H : Hp} {s : Shared} (I : Inv X pins σ H s) : ∀ (ds : List PyData) (vs : List V) (us : List Value), TpAll X.K H vs ds → Vals vs us → ReadsAll s.heap us ds []
  | [], _, _, h, r => by
    cases h
    cases r
    exact .nil
  | d :: ds, _, _, h, r => by
    cases h with
    | on h1 h2 =>
      cases r with
      | cons r1 r2 => exact ReadsAll.cons (as := []) (bs := []) (Tp.reads0 I d _ _ h1 r1) (TpAll.reads0 I ds _ _ h2 r2)
end
mutual
theorem Dp.noDict {K : PySem.W.Frag} {H : Hp} : ∀ {v : V} {d : PyData}, Dp K H v d → d.hasDict = false
  | _, _, .non => by simp only [PyData.hasDict]
  | _, _, .bl _ => by simp only [PyData.hasDict]
  | _, _, .int _ => by simp only [PyData.hasDict]
  | _, _, .str _ => by simp only [PyData.hasDict]
  | _, _, .lst _ r => by simp only [PyData.hasDict]; exact DpAll.noDict r
  | _, _, .tup _ r => by simp only [PyData.hasDict]; exact DpAll.noDict r
theorem DpAll.noDict {K : PySem.W.Frag} {H : Hp} : ∀ {vs : List V} {ds : List PyData}, DpAll K H vs ds → PyData.hasDictAll ds = false
  | _, _, .nil => by simp only [PyData.hasDictAll]
  | _, _, .cons a r => by simp only [PyData.hasDictAll, Dp.noDict a, DpAll.noDict r, Bool.or_self]
end
/-- a dict: empty, or one int for one value of ints and tuples -/
inductive DicD (K : PySem.W.Frag) (H : Hp) : List (L2.Key × V) → List (PyData × PyData) → Prop
  | no : DicD K H [] []
  | one {i : Int} {v : V} {d : PyData} : Tp K H v d → DicD K H [(.inl i, v)] [(.int i, d)]
/-- any data: a dict at most on top -/
inductive Aq (K : PySem.W.Frag) (H : Hp) : V → PyData → Prop
  | data {v : V} {d : PyData} : Dp K H v d → Aq K H v d
  | dic {a : Addr} {kvs : List (L2.Key × V)} {ds : List (PyData × PyData)} : H a = some (.dK kvs) → DicD K H kvs ds → Aq K H (.ref a) (.dict ds)
theorem Aq.same {K : PySem.W.Frag} {H H' : Hp} (e : Same H H') {v : V} {d : PyData} (h : Aq K H v d) : Aq K H' v d := by
  cases h with
  | data h => exact .data (Dp.same e h)
  | dic h g =>
    refine .dic (e _ _ h) ?_
    cases g with
    | no => exact .no
    | one t => exact .one (t.stay (.of e))
/-- what may be shown -/
structure GoodD (d : PyData) : Prop where
  sh : d.showable = true
  dp : d.depth ≤ 40
  lv : d.leavesShort 24 = true
  bk : d.bulk ≤ 400000
theorem GoodD.short {d : PyData} (h : GoodD d) : d.shown.length ≤ sizeLine := by
  have h1 := PyData.shown_le_bulk 24 (by decide) d h.lv
  have h2 := h.bk
  have h4 : sizeLine = 16777216 := sizeLine_eq
  omega
def goodB (d : PyData) : Bool := d.showable && decide (d.depth ≤ 40) && d.leavesShort 24 && decide (d.bulk ≤ 400000)
theorem good_by {d : PyData} (h : goodB d = true) : GoodD d := by
  unfold goodB at h
  simp only [Bool.and_eq_true, decide_eq_true_eq] at h
  exact ⟨h.1.1.1, h.1.1.2, h.1.2, h.2⟩
/-- some data that may be shown -/
def AnyV (K : PySem.W.Frag) (H : Hp) (v : V) : Prop := ∃ d, Aq K H v d ∧ GoodD d
theorem AnyV.same {K : PySem.W.Frag} {H H' : Hp} (e : Same H H') {v : V} (h : AnyV K H v) : AnyV K H' v := by
  obtain ⟨d, h1, h2⟩ := h
  exact ⟨d, h1.same e, h2⟩
def AllAny (K : PySem.W.Frag) (H : Hp) (vs : List V) : Prop := ∀ v ∈ vs, AnyV K H v
theorem AllAny.same {K : PySem.W.Frag} {H H' : Hp} (e : Same H H') {vs : List V} (h : AllAny K H vs) : AllAny K H' vs := fun v hv => (h v hv).same e
theorem AllAny.app {K : PySem.W.Frag} {H : Hp} {vs us : List V} (h : AllAny K H vs) (g : AllAny K H us) : AllAny K H (vs ++ us) := fun v hv => (List.mem_append.mp hv).elim (h v) (g v)
theorem AllAny.nil {K : PySem.W.Frag} {H : Hp} : AllAny K H [] := fun _ h => nomatch h
theorem AllAny.cons {K : PySem.W.Frag} {H : Hp} {v : V} {vs : List V} (h : AnyV K H v) (g : AllAny K H vs) : AllAny K H (v :: vs) := fun u hu => (List.mem_cons.mp hu).elim (fun e => e ▸ h) (g u)
section
variable {X : Cx}
/-! ### repr(x) -/
theorem call_reprA {j : Nat} (hgd : X.A.guards = some []) (hr : Room j X.A) :
    CallR X (.builtin "repr") (fun xs H Q => ∃ v d, xs = [v] ∧ Aq X.K H v d ∧ GoodD d ∧ Q (.str d.shown) H) := by
  intro pins s σ H xs us Q I r h
  obtain ⟨v, d, rfl, hd, hg, q⟩ := h
  obtain ⟨u, rfl, rx⟩ := vals1 r
  have hu := hr.units
  have hdp := hg.dp
  have fin : ∀ t : Nat, EP X pins σ Q (.str d.shown t) { s with toks := t + 1 } := fun t => ⟨.str d.shown, H, I.tok _, ⟨_, rfl⟩, q⟩
  have ref : ∀ a : Addr, u = .ref a → ∀ as, Reads s.heap (.ref a) d as → (d.hasDict = true → sysModules ∉ as) → wpAny (model X.prog X.w) X.A (call (.builtin "repr") [u]) (EP X pins σ Q) X.xe s := fun a e as rd hs => by
    subst e
    exact repr_of_reads' (h₀ := s.heap) rd hg.sh hs hgd (by omega) (fun _ _ z => z) (fun h' u tk hk => ⟨.str d.shown, H, I.kept hk, ⟨u, rfl⟩, q⟩) hg.short
  cases hd with
  | dic ha hD =>
    cases rx
    obtain ⟨z, hm, xs, rel, o, es, ep, ho, hx, hdat, hes, hp, hnd⟩ := dk_rd I.hok (.inl ha)
    cases hD with
    | no =>
      cases rel
      have he : es.toList = [] := by
        generalize es.toList = l at hp
        cases hp; rfl
      refine ref _ rfl _ (.dict (as := []) (bs := []) ho hx.1 hdat (by rw [he]; exact .nil) (by rw [he]; exact .nil)) fun _ y => ?_
      have y' := List.mem_singleton.mp (show sysModules ∈ [_] from y)
      rw [← y'] at hm
      exact absurd hm (by simp)
    | one t =>
      cases rel with
      | cons r1 r2 =>
        cases r2
        rename_i b
        obtain ⟨k, y⟩ := b
        obtain ⟨ek, ry⟩ := r1
        have he : ∃ e : DictEntry, es.toList = [e] ∧ keyIs k e.key = true ∧ e.val = y := by
          generalize es.toList = l at hp
          cases hp with
          | cons h1 h2 h3 =>
            cases h3
            exact ⟨_, rfl, h1, h2⟩
        obtain ⟨e, he, hk, hv⟩ := he
        have ek' : (Sum.inl _ : L2.Key) = k := ek
        rw [← ek'] at hk
        obtain ⟨t0, e0⟩ := Value.isInt_shape hk
        refine ref _ rfl _ (.dict (as := []) (bs := []) ho hx.1 hdat ?_ ?_) fun _ y => ?_
        · rw [he]
          show ReadsAll s.heap [e.key] _ []
          rw [e0]
          exact ReadsAll.cons (as := []) (bs := []) (.int _ _) .nil
        · rw [he]
          show ReadsAll s.heap [e.val] _ []
          rw [hv]
          exact ReadsAll.cons (as := []) (bs := []) (Tp.reads0 I _ _ _ t ry) .nil
        · have y' := List.mem_singleton.mp (show sysModules ∈ [_] from y)
          rw [← y'] at hm
          exact absurd hm (by simp)
  | data hd =>
    cases hd with
    | non => cases rx; exact PySem.P.repr_of_none (fin _)
    | bl b => cases rx; exact PySem.P.repr_of_bool (by have := fin s.toks; cases b <;> exact this)
    | int i =>
      obtain ⟨t, rfl⟩ := rx
      have hs := hg.sh
      simp only [PyData.showable, decide_eq_true_eq] at hs
      exact PySem.P.repr_of_int hs (fin _)
    | str x =>
      obtain ⟨t, rfl⟩ := rx
      exact PySem.P.repr_of_str (fin _) hg.short
    | lst hs ha =>
      cases rx
      obtain ⟨as, rd⟩ := Dp.reads I _ _ _ (.lst hs ha) rfl
      exact ref _ rfl as rd fun z => by
        rw [Dp.noDict (Dp.lst hs ha)] at z; exact nomatch z
    | tup hs ha =>
      cases rx
      obtain ⟨as, rd⟩ := Dp.reads I _ _ _ (.tup hs ha) rfl
      exact ref _ rfl as rd fun z => by
        rw [Dp.noDict (Dp.tup hs ha)] at z; exact nomatch z
end
end Sg
set_option Elab.async false
set_option linter.all false
set_option maxRecDepth 100000
set_option maxHeartbeats 4000000
namespace Sg
open PySem PySem.Spec PyProof.Rows L2
/-! ## isinstance of any data -/
def tyN : PyData → String
  | .none => "NoneType"
  | .bool _ => "bool"
  | .int _ => "int"
  | .str _ => "str"
  | .list _ => "list"
  | .tuple _ => "tuple"
  | .dict _ => "dict"
theorem tyL {K : PySem.W.Frag} {H : Hp} {a : Addr} {xs : List V} (h : SqL K H a xs) : TyX K H (.ref a) (.type "list") := by
  rcases h with (h | ⟨o, h⟩) | ⟨o, _, _, h, hc, _⟩
  · exact .base (.lst h)
  · exact .base (.frz h)
  · exact .kList h hc
theorem aq_ty {K : PySem.W.Frag} {H : Hp} {v : V} {d : PyData} (h : Aq K H v d) : TyX K H v (.type (tyN d)) := by
  cases h with
  | dic h _ => exact .base (.dK h)
  | data h =>
    cases h with
    | non => exact .base .non
    | bl b => exact .base (.bl b)
    | int i => exact .base (.int i)
    | str x => exact .base (.str x)
    | lst h _ => exact tyL h
    | tup h _ => exact tyT h
def isS (u t : String) : Bool := decide (t = u) || (decide (u = "int") && decide (t = "bool"))
def isB (u : String) (d : PyData) : Bool := isS u (tyN d)
theorem tyN_mem (d : PyData) : tyN d ∈ ["NoneType", "bool", "int", "str", "list", "tuple", "dict"] := by
  cases d <;> simp [tyN]
theorem kit_table : ∀ t ∈ ["NoneType", "bool", "int", "str", "list", "tuple", "dict"], ∀ u ∈ ["tuple", "int", "bool", "str", "list"], kitB t u = some (isS u t) := by decide +kernel
theorem isB_kit {u : String} (hu : u = "tuple" ∨ u = "int" ∨ u = "bool" ∨ u = "str" ∨ u = "list") (d : PyData) : kitB (tyN d) u = some (isB u d) :=
  kit_table _ (tyN_mem d) u (by rcases hu with rfl | rfl | rfl | rfl | rfl <;> simp)
section
variable {X : Cx}
/-- no data is an instance of this class -/
def NoInst (K : PySem.W.Frag) (C : Addr) : Prop := ∀ d : PyData, PySem.W.kitOne K (.type (tyN d)) (.ref C) = some false
theorem noInst_by {K : PySem.W.Frag} {C : Addr} (h1 : PySem.W.kitOne K (.type "NoneType") (.ref C) = some false) (h2 : PySem.W.kitOne K (.type "bool") (.ref C) = some false) (h3 : PySem.W.kitOne K (.type "int") (.ref C) = some false)
    (h4 : PySem.W.kitOne K (.type "str") (.ref C) = some false) (h5 : PySem.W.kitOne K (.type "list") (.ref C) = some false) (h6 : PySem.W.kitOne K (.type "tuple") (.ref C) = some false) (h7 : PySem.W.kitOne K (.type "dict") (.ref C) = some false) : NoInst K C := fun d => by
  cases d <;> assumption
end
theorem isB_tup {d : PyData} : isB "tuple" d = true ↔ ∃ ds, d = .tuple ds := by
  cases d <;> simp [isB, isS, tyN]
/-- an int that is no bool -/
def isIntD : PyData → Bool
  | .int _ => true
  | _ => false
def betD (d : PyData) (l m : Int) : Bool := match d with
  | .int i => decide (l ≤ i) && decide (i ≤ m)
  | _ => false
/-! ## displays of constants -/
def mapO (f : Expr → Option PyData) : List Expr → Option (List PyData)
  | [] => some []
  | e :: es => match f e, mapO f es with
    | some d, some ds => some (d :: ds)
    | _, _ => none
def constE : Nat → Expr → Option PyData
  | 0, _ => none
  | _ + 1, .Constant .none _ _ => some .none
  | _ + 1, .Constant (.bool b) _ _ => some (.bool b)
  | _ + 1, .Constant (.int i) _ _ => some (.int i)
  | _ + 1, .Constant (.str x) _ _ => some (.str x)
  | _ + 1, .UnaryOp .USub (.Constant (.int i) _ _) _ => some (.int (-i))
  | _ + 1, .BinOp (.Constant (.int a) _ _) .Pow (.Constant (.int b) _ _) _ => if 0 ≤ b ∧ b ≤ 18 ∧ a = 10 then some (.int (a ^ b.toNat)) else none
  | n + 1, .Tuple es _ _ => if es.length ≤ 1000 then (mapO (constE n) es).map .tuple else none
  | n + 1, .List es _ => if es.length ≤ 1000 then (mapO (constE n) es).map .list else none
  | _, _ => none
def constD (n : Nat) : Expr → Option PyData
  | .Dict [] [] _ => some (.dict [])
  | .Dict [some (.Constant (.int k) _ _)] [.Constant (.int v) _ _] _ => some (.dict [(.int k, .int v)])
  | e => constE n e
theorem PE.imp {X : Cx} {e : Expr} {t t' : TE} (h : PE X e t) (i : ∀ σ H Q, t' σ H Q → t σ H Q) : PE X e t' := ⟨fun pins s σ H Q I q => h.run pins s σ H Q I (i _ _ _ q)⟩
theorem same_refl (H : Hp) : Same H H := fun _ _ h => h
/-- what is new since H -/
def nw (H H' : Hp) : Hp := fun b => match H b with
  | none => H' b
  | some _ => none
/-- all but what stands at p -/
def wo (p : Addr) (H : Hp) : Hp := fun b => if b = p then none else H b
theorem nw_none {H H' : Hp} {b : Addr} (h : H b = none) : nw H H' b = H' b := by unfold nw; rw [h]
theorem nw_some {H H' : Hp} {b : Addr} {o : HO} (h : nw H H' b = some o) : H b = none ∧ H' b = some o := by
  unfold nw at h
  rcases z : H b with _ | u
  · rw [z] at h; exact ⟨rfl, h⟩
  · rw [z] at h; exact nomatch h
theorem nw_same {H H1 H2 : Hp} (e : Same H1 H2) : Same (nw H H1) (nw H H2) := fun b o h => by
  obtain ⟨h1, h2⟩ := nw_some h
  rw [nw_none h1]; exact e _ _ h2
theorem nw_left {H H1 H2 : Hp} (e : Same H H1) : Same (nw H1 H2) (nw H H2) := fun b o h => by
  obtain ⟨h1, h2⟩ := nw_some h
  have : H b = none := by
    rcases z : H b with _ | u
    · rfl
    · rw [e _ _ z] at h1; exact nomatch h1
  rw [nw_none this]; exact h2
theorem wo_some {p b : Addr} {H : Hp} {o : HO} (h : wo p H b = some o) : b ≠ p ∧ H b = some o := by
  unfold wo at h
  by_cases z : b = p
  · rw [if_pos z] at h; exact nomatch h
  · rw [if_neg z] at h; exact ⟨z, h⟩
theorem wo_ne {p b : Addr} {H : Hp} (h : b ≠ p) : wo p H b = H b := by unfold wo; rw [if_neg h]
theorem wo_sub {p : Addr} {H : Hp} : Same (wo p H) H := fun b o h => (wo_some h).2
theorem wo_but {p : Addr} {H H' : Hp} (e : But p H H') : Same (wo p H) (wo p H') := fun b o h => by
  obtain ⟨h1, h2⟩ := wo_some h
  rw [wo_ne h1]; exact e _ _ h1 h2
theorem wo_same {p : Addr} {H H' : Hp} (e : Same H H') : Same (wo p H) (wo p H') := fun b o h => by
  obtain ⟨h1, h2⟩ := wo_some h
  rw [wo_ne h1]; exact e _ _ h2
theorem nw_wo {p : Addr} {H H' : Hp} {o : HO} (h : H p = some o) : Same (nw H H') (wo p H') := fun b u g => by
  obtain ⟨h1, h2⟩ := nw_some g
  rw [wo_ne (fun z => by rw [z, h] at h1; exact nomatch h1)]; exact h2
theorem same_none {H H' : Hp} (e : Same H H') {b : Addr} (h : H' b = none) : H b = none := by
  rcases z : H b with _ | u
  · rfl
  · rw [e _ _ z] at h; exact nomatch h
def tData (K : PySem.W.Frag) (d : PyData) : TE := fun _ H Q => ∀ H' v, Same H H' → Dp K (nw H H') v d → Q v H'
def tDatas (K : PySem.W.Frag) (ds : List PyData) : TA := fun _ H Q => ∀ H' vs, Same H H' → DpAll K (nw H H') vs ds → Q vs H'
theorem constE_star {n : Nat} {e : Expr} {d : PyData} (h : constE n e = some d) : ∀ (es : List Expr) (env : Env), starEach (e :: es) env = (false, eval e env) :: starEach es env := by
  intro es env
  cases e with
  | Starred v p => cases n <;> simp [constE] at h
  | _ => rfl
theorem constE_ok {X : Cx} : ∀ (n : Nat) (e : Expr) (d : PyData), constE n e = some d → PE X e (tData X.K d) := by
  intro n
  induction n with
  | zero => intro e d h; exact nomatch h
  | succ n ih =>
    have big : 1000 ≤ sizeLine := by rw [sizeLine_eq]; decide
    have all : ∀ (es : List Expr) (ds : List PyData), mapO (constE n) es = some ds → PA X es (tDatas X.K ds) ∧ ds.length = es.length := by
      intro es
      induction es with
      | nil =>
        intro ds h
        cases h
        exact ⟨⟨fun pos pins s σ H Q I h => pa_nil.run pos pins s σ H Q I (h H [] (same_refl H) .nil)⟩, rfl⟩
      | cons e es ihe =>
        intro ds h
        unfold mapO at h
        split at h
        · rename_i d ds' h1 h2
          cases h
          obtain ⟨g1, g2⟩ := ihe ds' h2
          refine ⟨⟨fun pos pins s σ H Q I h => (pa_cons (ih e d h1) g1 (constE_star h1 _ _)).run pos pins s σ H Q I ?_⟩, by rw [List.length_cons, List.length_cons, g2]⟩
          exact fun H1 v e1 hv => fun H2 vs e2 hvs => h H2 (v :: vs) (e1.trans e2) (.cons (Dp.same (nw_same e2) hv) (DpAll.same (nw_left e1) hvs))
        · exact nomatch h
    intro e d h
    unfold constE at h
    split at h
    · exact absurd ‹_› (by simp)
    · cases h; exact PE.imp pe_non fun σ H Q q => q H _ (same_refl H) .non
    · cases h; exact PE.imp pe_bl fun σ H Q q => q H _ (same_refl H) (.bl _)
    · cases h; exact PE.imp pe_int fun σ H Q q => q H _ (same_refl H) (.int _)
    · cases h; exact PE.imp pe_str fun σ H Q q => q H _ (same_refl H) (.str _)
    · cases h; exact PE.imp (pe_un un_neg pe_int) fun σ H Q q => ⟨_, rfl, q H _ (same_refl H) (.int _)⟩
    · rename_i a j1 p1 b j2 p2 p3 m hm
      split at h
      · rename_i hc
        cases h
        obtain ⟨h1, h2, rfl⟩ := hc
        exact PE.imp (pe_op op_pow pe_int pe_int) fun σ H Q q => ⟨_, _, rfl, rfl, ⟨h1, by omega, by decide⟩, q H _ (same_refl H) (.int _)⟩
      · exact nomatch h
    · rename_i n' es k p hn
      cases hn
      split at h
      · rename_i hl
        obtain ⟨ds, h1, rfl⟩ := Option.map_eq_some_iff.mp h
        obtain ⟨g1, g2⟩ := all es ds h1
        refine PE.imp (pe_tup g1) fun σ H Q q => ?_
        intro H1 vs e1 hvs
        refine ⟨by have := DpAll.len hvs; omega, fun t nt => q _ _ (e1.trans (same_new nt)) (.tup (.of ((nw_none (same_none e1 nt)).trans upd_same)) (DpAll.same (nw_same (same_new nt)) hvs))⟩
      · exact nomatch h
    · rename_i n' es p hn
      cases hn
      split at h
      · rename_i hl
        obtain ⟨ds, h1, rfl⟩ := Option.map_eq_some_iff.mp h
        obtain ⟨g1, g2⟩ := all es ds h1
        refine PE.imp (pe_lst g1) fun σ H Q q => ?_
        intro H1 vs e1 hvs
        refine ⟨by have := DpAll.len hvs; omega, fun t nt => q _ _ (e1.trans (same_new nt)) (.lst (.of ((nw_none (same_none e1 nt)).trans upd_same)) (DpAll.same (nw_same (same_new nt)) hvs))⟩
      · exact nomatch h
    · exact nomatch h
/-! ### any constant, a list of them -/
def tAny (K : PySem.W.Frag) : TE := fun _ H Q => ∀ H' v, Same H H' → AnyV K (nw H H') v → Q v H'
def tAnys (K : PySem.W.Frag) (n : Nat) : TA := fun _ H Q => ∀ H' vs, Same H H' → AllAny K (nw H H') vs → vs.length = n → Q vs H'
def okC (e : Expr) : Bool := match constD 12 e with
  | some d => goodB d
  | none => false
theorem okC_star {e : Expr} (h : okC e = true) : ∀ (es : List Expr) (env : Env), starEach (e :: es) env = (false, eval e env) :: starEach es env := by
  intro es env
  cases e with
  | Starred v p => simp [okC, constD, constE] at h
  | _ => rfl
theorem pe_any {X : Cx} {e : Expr} (h : okC e = true) : PE X e (tAny X.K) := by
  unfold okC at h
  split at h
  · rename_i d hd
    have hg := good_by h
    unfold constD at hd
    split at hd
    · cases hd
      refine PE.imp pe_dnewK fun σ H Q q => ?_
      exact fun p np => q _ _ (same_new np) ⟨_, .dic ((nw_none np).trans upd_same) .no, hg⟩
    · rename_i ki j1 p1 vi j2 p2 p3
      cases hd
      refine PE.imp (pe_disp (pps_cons pe_int pe_int pps_nil) rfl rfl (fun z => nomatch z) (by show 1 ≤ 15; decide)) fun σ H Q q => ?_
      intro p np
      refine ⟨upd_same, [(.inl ki, .int vi)], rfl, by show 1 ≤ 15; decide, ?_⟩
      have e2 : Same H (L2.upd (L2.upd H p (.dK [])) p (.dK (mergeK [] [(.inl ki, .int vi)]))) := fun b o z => by
        rw [upd_ne (ne_of_none z np), upd_ne (ne_of_none z np)]; exact z
      exact q _ _ e2 ⟨_, .dic ((nw_none np).trans upd_same) (.one (.int _)), hg⟩
    · exact PE.imp (constE_ok 12 e d hd) fun σ H Q q => fun H' v e' hv => q H' v e' ⟨d, .data hv, hg⟩
  · exact nomatch h
theorem pa_consts {X : Cx} : ∀ (es : List Expr), es.all okC = true → PA X es (tAnys X.K es.length)
  | [], _ => ⟨fun pos pins s σ H Q I h => pa_nil.run pos pins s σ H Q I (h H [] (same_refl H) .nil rfl)⟩
  | e :: es, h => by
    rw [List.all_cons, Bool.and_eq_true] at h
    refine ⟨fun pos pins s σ H Q I q => (pa_cons (pe_any h.1) (pa_consts es h.2) (okC_star h.1 _ _)).run pos pins s σ H Q I ?_⟩
    exact fun H1 v e1 hv => fun H2 vs e2 hvs hl => q H2 (v :: vs) (e1.trans e2) (.cons (hv.same (nw_same e2)) (hvs.same (nw_left e1))) (congrArg (· + 1) hl)
/-- a list of constants -/
def tAnyL (K : PySem.W.Frag) (n : Nat) : TE := fun _ H Q => ∀ H' l vs, Same H H' → H l = none → H' l = some (.lst vs) → AllAny K (nw H H') vs → vs.length = n → Q (.ref l) H'
theorem pe_anyL {X : Cx} {es : List Expr} {p : Pos} {n : Nat} (h : es.all okC = true) (hn : es.length = n) (hs : n ≤ 1000) : PE X (.List es p) (tAnyL X.K n) := by
  refine PE.imp (pe_lst (pa_consts es h)) fun σ H Q q => ?_
  intro H1 vs e1 hvs hl
  have big : 1000 ≤ sizeLine := by rw [sizeLine_eq]; decide
  exact ⟨by omega, fun l nl => q _ l vs (e1.trans (same_new nl)) (same_none e1 nl) upd_same (hvs.same (nw_same (same_new nl))) (by omega)⟩
end Sg
set_option Elab.async false
set_option linter.all false
set_option maxRecDepth 100000
set_option maxHeartbeats 4000000
namespace Sg
open PySem PySem.Spec PyProof.Rows L2
/-! ## defs that are handed an exception, in an except suite -/
/-- p: the exception's place and object -/
structure FnE (P : Program) (w : World) (K : PySem.W.Frag) (mg : Str → Option Value) (base : Heap) (k : Nat) (f : Addr) (fd : FuncData) (ps : List Str) (sp : Addr × Obj → Sp) : Prop where
  arity : ∀ p vs H Q, sp p vs H Q E0 → vs.length = ps.length
  go : ∀ (A : Around) (outer : List Env) (s : Shared) (H : Hp) (args : Args) (us : List Value) (vs : List V) (Q : VK) (p : Addr × Obj),
    L2H.RoomH k A → L2H.PinOk outer H s p → Env0 P w K mg base A outer s H → BindsTo s fd args (ps.zip us) → Vals vs us → sp p vs H Q E0 →
    codeAny (model P w) A (.call (.ref f) args) (CR CX0 outer P w H s Q E0) s
section
variable {P : Program} {w : World} {K : PySem.W.Frag} {mg : Str → Option Value} {base : Heap} {k : Nat} {f : Addr}
variable {fd : FuncData} {ps : List Str} {sp : Addr × Obj → Sp}
theorem FnE.mono {j : Nat} (F : FnE P w K mg base j f fd ps sp) (h : j ≤ k) : FnE P w K mg base k f fd ps sp :=
  ⟨F.arity, fun A outer s H args us vs Q p hr => F.go A outer s H args us vs Q p (hr.mono h)⟩
theorem fnE_mk {x qual : Str} {st : Stmt} {N : List Str} (F : Fun K x qual st f fd)
    (S : FnScope N ps (defScope st)) (arity : ∀ p vs H Q, sp p vs H Q E0 → vs.length = ps.length)
    (hbody : ∀ (cdv : Value) (A : Around) (outer : List Env) (s : Shared) (H : Hp) (vs : List V) (Q : VK) (p : Addr × Obj),
      L2H.RoomH k (A.deeper (envOfC qual (defScope st) s.heap.objs.size f cdv)) → sp p vs H Q E0 →
      ∃ t, PSs (L2H.cxH CX0 P w K mg base N qual (defScope st) f cdv A outer s H E0 p) (defBody st) t ∧
        t { nx := fun _ H' => Q .non H', rt := Q } (start N vs) H) :
    FnE P w K mg base (k + 1) f fd ps sp := by
  obtain ⟨oc, od, kV, doc, pm, an, cdv, ct, osl, rfl, lk, hcd⟩ := F.ex
  refine ⟨arity, ?_⟩
  intro A outer s H args us vs Q p hr hpin e0 hb r hsp
  have hl := arity _ _ _ _ hsp
  have hk0 : ∀ b o, base.get? b = some o → s.heap.get? b = some o := fun b o e => (e0.bs b o e).1
  have KX : K.In s.heap := e0.mod.kin.keeps hk0
  have lim : s.heap.NoLimit := e0.mod.nolimit.keeps hk0
  refine codeAny_call_function hr.depth (KX _ _ lk) rfl S.co S.gen rfl (PySem.W.codeRec_of KX hcd) ?_
  refine hb _ _ _ _ (wpAny_newFunctionEnv_cells S.kind ?_ ?_)
  · rintro ⟨n, v⟩ hy
    have hn := S.par n (List.of_mem_zip hy).1
    cases hn with
    | inl q => exact .inl q
    | inr q => exact .inr ⟨q, PySem.W.cellsFrom_some _ _ _ (.inl q)⟩
  · intro env he s1 x
    subst he
    refine ⟨lim.keeps x.toInCall.keep, ?_⟩
    apply codeAny_func
    obtain ⟨t, ht, hq⟩ := hbody cdv A outer s H vs Q p (hr.deeper _) hsp
    have I := L2H.inv_startH (CX := CX0) (E := E0) (cd := cdv) (qual := qual) (f := f) S hpin e0 hl r x
    refine wpAny_mono (ht.run [] s1 (start N vs) H _ I hq) ?_ (fun e s' hs => hs)
    intro fl s' hs
    cases fl with
    | ret u =>
      obtain ⟨v, σ', H', J, rv, q⟩ := hs
      exact ⟨v, H', J.os, J.bare, J.base, J.hok, rv, q⟩
    | next =>
      obtain ⟨σ', H', J, q⟩ := hs
      exact ⟨V.non, H', J.os, J.bare, J.base, J.hok, rfl, q⟩
    | brk => obtain ⟨_, _, _, q⟩ := hs; exact q.elim
    | cont => obtain ⟨_, _, _, q⟩ := hs; exact q.elim
end
section
variable {X : Cx} {k : Nat} {f : Addr} {fd : FuncData} {ps : List Str} {sp : Addr × Obj → Sp}
variable {x : Str} {q pos : Pos} {e : Expr} {es : List Expr} {t : TA} {p : Addr × Obj}
/-- f(e, ..) of such a def, p the exception that is handed over -/
theorem pe_callE (F : FnE X.prog X.w X.K X.mg X.base k f fd ps sp) (hp : p ∈ X.pn) (hr : L2H.RoomH k X.A)
    (hg : Gl X x) (hm : X.mg x = some (.ref f)) (hk : PySem.W.keepIn X.K (.ref f) = true) (hb : Binds X.K fd ps [])
    (ha : PA X (e :: es) t) (hdb : (x == ("__debug__" : Str)) = false := by decide)
    (he : starEach (e :: es) X.env = (false, eval e X.env) :: starEach es X.env := by rfl)
    (hpl : (backTo pos (starEach es X.env)).any (·.1) = false := by rfl) :
    PE X (.Call (.Name x q) (e :: es) [] pos) (tCall (sp p) [] E0 t) := by
  constructor
  intro pins s σ H Q I h
  refine wpAny_Call_Name_kw (ld_glob I hg hm (PySem.W.callWith_K (h₀ := X.base) I.ok.mod.kin hk ?_ he hpl) hdb)
  refine thn (ha.run pos pins s σ H _ I h) ?_
  rintro us s1 ⟨vs, H1, I1, r, q⟩
  refine ⟨I1.kIn, ?_⟩
  rw [List.append_nil] at q
  have hl : (us ++ []).length = ps.length := by rw [List.append_nil, ← r.length]; exact F.arity _ _ _ _ q
  have hbb := hb s1 us I1.kIn hl
  rw [List.append_nil] at hbb
  obtain ⟨p1, p2, p3, p4, p5⟩ := I1.pin p (List.mem_append_left _ hp)
  have hpin : L2H.PinOk X.stack H1 s1 p := ⟨p1, p2, fun hm => (List.mem_cons.mp (I1.stkSub p.1 hm)).elim p3 p4, p5⟩
  refine wpAny_call (codeAny_mono (F.go X.A X.stack s1 H1 ⟨us, []⟩ us vs Q p hr hpin I1.env0 hbb r q) ?_)
  intro r' s' hq
  match r', hq with
  | .error _, hq => exact hq.elim
  | .ok (.ret _), hq => exact I1.after hq
  | .ok .next, hq => exact hq.elim
  | .ok .brk, hq => exact hq.elim
  | .ok .cont, hq => exact hq.elim
/-- l.count(True), l a list of truths -/
theorem mt_lcountB : MtR X "list.count" (fun x xs H Q => ∃ (p : Addr) (bs : List Bool), x = .ref p ∧ xs = [.bl true] ∧ SqL X.K H p (bs.map V.bl) ∧ Q (.int (bs.count true : Nat)) H) := by
  intro pins s σ H x xs v us Q I rx rxs h
  obtain ⟨p, bs, rfl, rfl, hs, q⟩ := h
  cases rx
  obtain ⟨u, rfl, ru⟩ := rxs.one
  obtain rfl : u = Value.bool true := ru
  obtain ⟨its, rv, ⟨⟨cls, dd, data, sl⟩, n, ho, hc, hdn, hd⟩, hlen⟩ := I.list hs
  simp only at hc hd
  subst hc hd
  have fl : (bs.map V.bl).all flatV = true := by
    rw [List.all_eq_true]
    intro y hy
    obtain ⟨b, _, rfl⟩ := List.mem_map.mp hy
    rfl
  have ei : its = bs.map Value.bool := by
    clear ho hlen fl hs q hdn
    induction bs generalizing its with
    | nil => cases rv; rfl
    | cons b r ih =>
      cases rv with
      | cons a t =>
        rw [List.map_cons, ← ih _ t]
        cases a; rfl
  have ec : its.toArray.toList.countP (eqU (V.bl true)) = bs.count true := by
    rw [ei]
    show (bs.map Value.bool).countP _ = _
    rw [List.countP_map, List.count_eq_countP]
    refine List.countP_congr fun b _ => ?_
    cases b <;> simp [eqU, eqV]
  refine call_meets PySem.F.slot_list_count ⟨_, ho, rfl⟩ PySem.F.entry_list_count (PySem.F.args_list_count_2 _ _)
    (SeqAt.list_countAt p its.toArray n dd sl (.bool true) (eqU (V.bl true))) ⟨ho, fun y hy => mem_eqAt (x := V.bl true) rfl rfl rv fl y (by simpa using hy), ?_⟩
  refine ⟨.int (bs.count true : Nat), H, I.tok _, ⟨s.toks, ?_⟩, q⟩
  rw [← ec]
end
end Sg
set_option Elab.async false
set_option linter.all false
set_option maxRecDepth 100000
set_option maxHeartbeats 4000000
namespace Sg
open PySem PySem.Spec PyProof.Rows L2
/-! ## tuples whose object is told: their methods -/
def FrzT (H : Hp) (a : Addr) (xs : List V) : Prop := ∃ ob, H a = some (.frz ob (.tup xs)) ∧ ob.cls = .type "tuple" ∧ ob.dict = none
theorem FrzT.same {H H' : Hp} (e : Same H H') {a : Addr} {xs : List V} (h : FrzT H a xs) : FrzT H' a xs := by
  obtain ⟨ob, h1, h2⟩ := h
  exact ⟨ob, e _ _ h1, h2⟩
theorem FrzT.but {p : Addr} {H H' : Hp} (e : But p H H') {a : Addr} {xs : List V} (h : FrzT H a xs) (n : a ≠ p) : FrzT H' a xs := by
  obtain ⟨ob, h1, h2⟩ := h
  exact ⟨ob, e _ _ n h1, h2⟩
section
variable {X : Cx} {o e : Expr} {es : List Expr} {to : TE} {t : TA} {name : Str} {apos cpos : Pos} {id : String} {r : V → List V → Hp → VK → Prop}
/-! ## a tuple times a number, up to 100,000 items -/
def rRepB (K : PySem.W.Frag) : R2 := fun x y H Q => ∃ l, ∃ k : Nat, ∃ xs, x = .ref l ∧ y = .int k ∧ SqT K H l xs ∧ xs ≠ [] ∧ 2 ≤ k ∧ k * xs.length ≤ 100000 ∧ ∀ p, H p = none → Q (.ref p) (upd H p (.tup (List.replicate k xs).flatten))
theorem op_repB : OpR X (binaryOp .Mult) (rRepB X.K) := by
  intro pins s σ H x y v u Q I rx ry h
  obtain ⟨l, k, xs, e1, e2, hT, hne, h1, hz, q⟩ := h
  subst e1 e2
  cases rx
  obtain ⟨t, et⟩ := ry
  subst et
  obtain ⟨its, r, ⟨⟨cls, dd, data, sl⟩, ho, hc, n, hd⟩, hs⟩ := I.tuple hT
  simp only at hc hd
  subst hc hd
  have lx : its.length = xs.length := r.length.symm
  have pos : 0 < xs.length := List.length_pos_iff.mpr hne
  have ne : its.toArray.isEmpty = false := by
    cases its with
    | nil => rw [← lx] at pos; exact absurd pos (by decide)
    | cons a b => rfl
  have sz : its.toArray.size = xs.length := by rw [List.size_toArray, lx]
  have prod : ((its.toArray.size : Nat) : Int) * (k : Nat) ≤ 100000 := by
    rw [sz, ← Int.natCast_mul, Nat.mul_comm]
    exact Int.ofNat_le.mpr hz
  have kle : k ≤ 100000 := Nat.le_trans (Nat.le_mul_of_pos_right k pos) hz
  have lim : (100000 : Nat) ≤ sizeLine := by rw [sizeLine_eq]; decide
  have flat : (List.replicate k its).flatten.length ≤ sizeLine := by
    rw [PyProof.Rows.lm_len_rep_flat, lx]
    exact Nat.le_trans hz lim
  have c0 : (decide (((k : Nat) : Int) < -(2 ^ 63)) || decide (((k : Nat) : Int) ≥ 2 ^ 63)) = false := by
    rw [decide_eq_false (by omega), decide_eq_false (by omega)]; rfl
  have c1 : (its.toArray.isEmpty || ((k : Nat) : Int) == 1) = false := by
    rw [ne, Bool.false_or]
    exact beq_eq_false_iff_ne.mpr (by omega)
  have c2 : (decide (((k : Nat) : Int) ≤ 0) || its.toArray.isEmpty) = false := by
    rw [ne, Bool.or_false]
    exact decide_eq_false (by omega)
  have c4 : Builtin.Tuple.tupleTooMany (((its.toArray.size : Nat) : Int) * (k : Nat)) = false := by
    unfold Builtin.Tuple.tupleTooMany
    refine decide_eq_false ?_
    have : ((100000 : Nat) : Int) ≤ (sizeLine : Int) := Int.ofNat_le.mpr lim
    omega
  have hmul := tuple_mulW l its.toArray n dd sl ((k : Nat) : Int) t c0 c1 c2 (by omega) c4 (by rw [size_rep, List.size_toArray]; exact flat)
  refine wpAny_binaryOp_repeat_ref (T := "tuple") (U := "int") (by decide) ⟨_, ho, rfl⟩ (fun s' => typeIs_int s' k t) noFill_tuple_mul PySem.F.fills_int_mul PySem.F.slot_int_rmul repeat_tuple PySem.F.slot_int_index.lookup
    (call_meets PySem.F.slot_int_rmul (typeIs_int s k t) PySem.F.entry_int_rmul (PySem.F.args_int_rmul_2 _ _) (int_rmul_tuple k t l its.toArray n dd sl)
      ⟨ho, rfl, ⟨_, ho, rfl⟩, call_meets PySem.F.slot_tuple_mul ⟨_, ho, rfl⟩ PySem.F.entry_tuple_mul (PySem.F.args_tuple_mul_2 _ _) hmul ⟨ho, ?_⟩⟩)
  rw [size_rep]
  have hnew : ObjOk X.prog X.w (upd H s.heap.objs.size (.tup (List.replicate k xs).flatten)) (s.heap.push { cls := .type "tuple", data := .seq (List.replicate ((k : Nat) : Int).toNat its).flatten.toArray }) s.heap.objs.size (.tup (List.replicate k xs).flatten) :=
    ⟨by rw [PyProof.Rows.lm_len_rep_flat]; exact Nat.le_trans hz lim, _, r.rep k, IsTup.new _ _⟩
  exact ⟨.ref s.heap.objs.size, _, I.laid (t' := s.toks) (fun b ob z => Heap.get?_push_of_some _ z) (Nat.le_refl _) hnew, rfl, q _ (I.hok.fresh (Nat.le_refl _))⟩
/-! ## a text times a number -/
def repS (z : Str) (n : Nat) : Str := ⟨(List.replicate n z.cps).foldl (· ++ ·) #[]⟩
theorem op_mulS : OpR X (binaryOp .Mult) (fun x y H Q => ∃ z, ∃ n : Nat, x = .str z ∧ y = .int n ∧ 2 ≤ n ∧ 2 ≤ z.length ∧ z.length * n ≤ 100000 ∧ Q (.str (repS z n)) H) := by
  intro pins s σ H x y v u Q I rx ry h
  obtain ⟨z, n, e1, e2, h1, h2, h3, q⟩ := h
  subst e1 e2
  obtain ⟨t, et⟩ := rx
  obtain ⟨t', et'⟩ := ry
  subst et et'
  have lim : (100000 : Nat) ≤ sizeLine := by rw [sizeLine_eq]; decide
  have nle : n ≤ 100000 := Nat.le_trans (Nat.le_mul_of_pos_left n (by omega)) h3
  have zle : z.length ≤ 100000 := Nat.le_trans (Nat.le_mul_of_pos_right z.length (by omega)) h3
  have ne1 : ¬ ((n : Nat) : Int) < 1 := by omega
  have no : (((n : Nat) : Int) == 1 || z.length == 0) = false := by
    rw [beq_eq_false_iff_ne.mpr (by omega), beq_eq_false_iff_ne.mpr (by omega)]; rfl
  refine SB.mul ⟨?_, fun _ _ => ?_, fun _ _ => ?_⟩ fun t' k => ?_
  · rw [decide_eq_false (by omega), decide_eq_false (by omega)]; rfl
  · have : ((z.length : Nat) : Int) ≤ (2 ^ 63 - 1) / ((n : Nat) : Int) := by
      rw [Int.le_ediv_iff_mul_le (by omega), ← Int.natCast_mul]
      exact Int.le_trans (Int.ofNat_le.mpr h3) (by decide)
    omega
  · unfold Builtin.Str.tooLong
    refine decide_eq_false ?_
    rw [Int.toNat_natCast]
    omega
  · have e : Txt.mul z ((n : Nat) : Int) = repS z n := by
      unfold Txt.mul
      rw [if_neg ne1, no, Int.toNat_natCast]; rfl
    rw [e]
    exact ⟨.str (repS z n), H, I.tok _, ⟨_, rfl⟩, q⟩
end
end Sg
set_option Elab.async false
set_option linter.all false
set_option maxRecDepth 100000
set_option maxHeartbeats 4000000
namespace Sg
open PySem PySem.Spec PyProof.Rows L2
/-! ## rows of data that may be shown -/
structure SmL (k : Nat) (ds : List PyData) : Prop where
  sh : PyData.showableAll ds = true
  dp : PyData.depthAll ds ≤ 38
  lv : PyData.leavesShortAll 24 ds = true
  bk : PyData.bulkAll ds ≤ k
def smB (k : Nat) (ds : List PyData) : Bool := PyData.showableAll ds && decide (PyData.depthAll ds ≤ 38) && PyData.leavesShortAll 24 ds && decide (PyData.bulkAll ds ≤ k)
theorem smL_by {k : Nat} {ds : List PyData} (h : smB k ds = true) : SmL k ds := by
  unfold smB at h
  simp only [Bool.and_eq_true, decide_eq_true_eq] at h
  exact ⟨h.1.1.1, h.1.1.2, h.1.2, h.2⟩
theorem SmL.le {k m : Nat} {ds : List PyData} (h : SmL k ds) (e : k ≤ m) : SmL m ds := ⟨h.sh, h.dp, h.lv, Nat.le_trans h.bk e⟩
theorem SmL.nil : SmL 0 [] := smL_by (by decide +kernel)
theorem SmL.cons {k m : Nat} {d : PyData} {ds : List PyData} (h : SmL k [d]) (g : SmL m ds) : SmL (k + m) (d :: ds) := by
  have h1 := h.sh; have h2 := h.dp; have h3 := h.lv; have h4 := h.bk
  simp only [PyData.showableAll, PyData.depthAll, PyData.leavesShortAll, PyData.bulkAll, Bool.and_true] at h1 h2 h3 h4
  refine ⟨?_, ?_, ?_, ?_⟩
  · simp only [PyData.showableAll, h1, g.sh, Bool.and_self]
  · simp only [PyData.depthAll]; have := g.dp; omega
  · simp only [PyData.leavesShortAll, h3, g.lv, Bool.and_self]
  · simp only [PyData.bulkAll]; have := g.bk; omega
theorem SmL.uncons {k : Nat} {d : PyData} {ds : List PyData} (h : SmL k (d :: ds)) : SmL k [d] ∧ SmL k ds := by
  have h1 := h.sh; have h2 := h.dp; have h3 := h.lv; have h4 := h.bk
  simp only [PyData.showableAll, PyData.depthAll, PyData.leavesShortAll, PyData.bulkAll, Bool.and_eq_true] at h1 h2 h3 h4
  refine ⟨⟨?_, ?_, ?_, ?_⟩, h1.2, by omega, h3.2, by omega⟩
  · simp only [PyData.showableAll, h1.1, Bool.and_self]
  · simp only [PyData.depthAll]; omega
  · simp only [PyData.leavesShortAll, h3.1, Bool.and_self]
  · simp only [PyData.bulkAll]; omega
theorem SmL.app {k m : Nat} : ∀ {ds es : List PyData}, SmL k ds → SmL m es → SmL (k + m) (ds ++ es)
  | [], _, _, g => g.le (Nat.le_add_left _ _)
  | d :: ds, es, h, g => by
    have h1 := h.sh; have h2 := h.dp; have h3 := h.lv; have h4 := h.bk
    simp only [PyData.showableAll, PyData.depthAll, PyData.leavesShortAll, PyData.bulkAll, Bool.and_eq_true] at h1 h2 h3 h4
    have i := SmL.app (k := PyData.bulkAll ds) ⟨h1.2, by omega, h3.2, Nat.le_refl _⟩ g
    have j := SmL.cons h.uncons.1 i
    refine ⟨j.sh, j.dp, j.lv, ?_⟩
    show PyData.bulkAll (d :: (ds ++ es)) ≤ _
    simp only [PyData.bulkAll]
    have := i.bk
    omega
theorem SmL.drop {k : Nat} : ∀ {ds : List PyData} (i : Nat), SmL k ds → SmL k (ds.drop i)
  | _, 0, h => h
  | [], _ + 1, h => h
  | _ :: _, i + 1, h => SmL.drop i h.uncons.2
theorem SmL.take {k : Nat} : ∀ {ds : List PyData} (i : Nat), SmL k ds → SmL k (ds.take i)
  | _, 0, h => by rw [List.take_zero]; exact SmL.nil.le (Nat.zero_le _)
  | [], _ + 1, h => h
  | d :: ds, i + 1, h => by
    have h4 := h.bk
    simp only [PyData.bulkAll] at h4
    have u := h.uncons
    have t := SmL.take (k := PyData.bulkAll ds) i ⟨u.2.sh, u.2.dp, u.2.lv, Nat.le_refl _⟩
    have j := SmL.cons (k := PyData.bulk d + 1) ⟨u.1.sh, u.1.dp, u.1.lv, by simp only [PyData.bulkAll]; omega⟩ t
    exact j.le h4
theorem SmL.rep {k : Nat} {ds : List PyData} (h : SmL k ds) : ∀ n : Nat, SmL (n * k) (List.replicate n ds).flatten
  | 0 => SmL.nil.le (Nat.zero_le _)
  | n + 1 => by
    rw [List.replicate_succ, List.flatten_cons]
    exact (SmL.app h (SmL.rep h n)).le (by rw [Nat.add_mul, Nat.one_mul]; omega)
theorem SmL.tup {k : Nat} {ds : List PyData} (h : SmL k ds) (e : k ≤ 400000) : GoodD (.tuple ds) :=
  ⟨by simp only [PyData.showable, h.sh], by simp only [PyData.depth]; have := h.dp; omega, by simp only [PyData.leavesShort, h.lv], by simp only [PyData.bulk]; exact Nat.le_trans h.bk e⟩
theorem SmL.lst {k : Nat} {ds : List PyData} (h : SmL k ds) (e : k ≤ 400000) : GoodD (.list ds) :=
  ⟨by simp only [PyData.showable, h.sh], by simp only [PyData.depth]; have := h.dp; omega, by simp only [PyData.leavesShort, h.lv], by simp only [PyData.bulk]; exact Nat.le_trans h.bk e⟩
theorem SmL.one {d : PyData} {k : Nat} (h : GoodD d) (e : d.depth ≤ 38) (b : d.bulk + 1 ≤ k) : SmL k [d] :=
  ⟨by simp only [PyData.showableAll, h.sh, Bool.and_self], by simp only [PyData.depthAll]; omega, by simp only [PyData.leavesShortAll, h.lv, Bool.and_self], by simp only [PyData.bulkAll]; omega⟩
theorem SmL.all {ds : List PyData} (h : ∀ d ∈ ds, SmL 100 [d]) : SmL (ds.length * 100) ds := by
  induction ds with
  | nil => exact SmL.nil.le (Nat.zero_le _)
  | cons d ds ih =>
    refine (SmL.cons (h d List.mem_cons_self) (ih fun x hx => h x (List.mem_cons_of_mem _ hx))).le ?_
    rw [List.length_cons, Nat.add_mul, Nat.one_mul]; omega
def smallI : List Int := [-1, 0, 1, 2, 3, 4, 5, 6, 7, 8, 9]
theorem small_table : ∀ i ∈ smallI, smB 1 [.int i] = true := by decide +kernel
theorem mem_smallI {i : Int} (h : -1 ≤ i ∧ i ≤ 9) : i ∈ smallI := by
  have : i = -1 ∨ i = 0 ∨ i = 1 ∨ i = 2 ∨ i = 3 ∨ i = 4 ∨ i = 5 ∨ i = 6 ∨ i = 7 ∨ i = 8 ∨ i = 9 := by omega
  unfold smallI
  rcases this with rfl | rfl | rfl | rfl | rfl | rfl | rfl | rfl | rfl | rfl | rfl <;> simp
theorem smL_ints {ns : List Int} (h : ∀ x ∈ ns, -1 ≤ x ∧ x ≤ 9) : SmL ns.length (iD ns) := by
  induction ns with
  | nil => exact SmL.nil
  | cons n ns ih =>
    refine (SmL.cons (smL_by (small_table n (mem_smallI (h n List.mem_cons_self)))) (ih fun x hx => h x (List.mem_cons_of_mem _ hx))).le ?_
    rw [List.length_cons]; omega
theorem DpAll.drop {K : PySem.W.Frag} {H : Hp} : ∀ {vs : List V} {ds : List PyData} (i : Nat), DpAll K H vs ds → DpAll K H (vs.drop i) (ds.drop i)
  | _, _, 0, h => h
  | _, _, _ + 1, .nil => .nil
  | _, _, i + 1, .cons _ r => DpAll.drop i r
theorem DpAll.take {K : PySem.W.Frag} {H : Hp} : ∀ {vs : List V} {ds : List PyData} (i : Nat), DpAll K H vs ds → DpAll K H (vs.take i) (ds.take i)
  | _, _, 0, h => by rw [List.take_zero, List.take_zero]; exact .nil
  | _, _, _ + 1, .nil => .nil
  | _, _, i + 1, .cons a r => .cons a (DpAll.take i r)
theorem DpAll.rep {K : PySem.W.Frag} {H : Hp} {vs : List V} {ds : List PyData} (h : DpAll K H vs ds) : ∀ n, DpAll K H (List.replicate n vs).flatten (List.replicate n ds).flatten
  | 0 => .nil
  | n + 1 => by
    rw [List.replicate_succ, List.replicate_succ, List.flatten_cons, List.flatten_cons]
    exact DpAll.app h (DpAll.rep h n)
theorem DpAll.cut {K : PySem.W.Frag} {H : Hp} {vs : List V} {ds : List PyData} (h : DpAll K H vs ds) {k : Nat} (g : SmL k ds) (lo hi : Option Int) : ∃ es, DpAll K H (cutV vs lo hi) es ∧ SmL k es := by
  unfold cutV
  exact ⟨_, DpAll.take _ (DpAll.drop _ h), SmL.take _ (SmL.drop _ g)⟩
/-- a text, again and again -/
theorem repS_list (z : Str) (n : Nat) : (repS z n).cps.toList = (List.replicate n z.cps.toList).flatten := by
  unfold repS
  have : ∀ (l : List (Array Nat)) (acc : Array Nat), (l.foldl (· ++ ·) acc).toList = acc.toList ++ (l.map (·.toList)).flatten := by
    intro l
    induction l with
    | nil => intro acc; simp
    | cons a l ih => intro acc; rw [List.foldl_cons, ih]; simp
  rw [this]
  simp
theorem smL_rep {z : Str} {n : Nat} (h : z.cps.toList.all (fun c => decide (c < 16 ^ 8)) = true) : SmL (n * z.length + 1) [.str (repS z n)] := by
  have e := repS_list z n
  refine ⟨by simp only [PyData.showableAll, PyData.showable, Bool.and_self], by simp only [PyData.depthAll, PyData.depth]; omega, ?_, ?_⟩
  · simp only [PyData.leavesShortAll, PyData.leavesShort, Bool.and_true]
    rw [e, List.all_eq_true]
    intro c hc
    obtain ⟨l, hl, hcl⟩ := List.mem_flatten.mp hc
    rw [List.eq_of_mem_replicate hl] at hcl
    exact List.all_eq_true.mp h c hcl
  · simp only [PyData.bulkAll, PyData.bulk]
    have : (repS z n).cps.size = n * z.length := by
      rw [← Array.length_toList, e, List.length_flatten]
      simp [Str.length]
    omega
/-! ## l != [] -/
theorem op_neNil {X : Cx} (hu : X.A.units < cLine) : OpR X (compareOp .NotEq) (fun x y H Q => ∃ a b xs, x = .ref a ∧ y = .ref b ∧ SqL X.K H a xs ∧ SqL X.K H b [] ∧ Q (.bl (!xs.isEmpty)) H) := by
  intro pins s σ H x y v u Q I rx ry h
  obtain ⟨a, b, xs, rfl, rfl, h1, h2, q⟩ := h
  cases rx
  cases ry
  obtain ⟨its, rv, pl, hz⟩ := I.list h1
  obtain ⟨its2, rv2, pl2, hz2⟩ := I.list h2
  obtain rfl : its2 = [] := by cases rv2; rfl
  cases xs with
  | nil =>
    obtain rfl : its = [] := by cases rv; rfl
    exact SeqAt.RcNeAt.lists (e := fun _ => true) pl.isList pl2.isList rfl hu (fun j h1 _ => absurd h1 (by simp)) _ _ _ _ ⟨.bl _, H, I, rfl, q⟩
  | cons x xs =>
    obtain ⟨y, its', rfl⟩ : ∃ y its', its = y :: its' := by cases rv with | cons a b => exact ⟨_, _, rfl⟩
    exact SeqAt.RcNeAt.lists_lengths pl.isList pl2.isList (by simp) hu _ _ _ _ ⟨.bl _, H, I, rfl, q⟩
end Sg
set_option Elab.async false
set_option linter.all false
set_option maxRecDepth 100000
set_option maxHeartbeats 4000000
namespace Sg
open PySem PySem.Spec PyProof.Rows L2
/-! ## rows of expressions, each of its own making -/
def tE (S : L2.St → Hp → Prop) (R : Hp → V → Prop) : TE := fun σ H Q => S σ H ∧ ∀ H' v, Same H H' → R H' v → Q v H'
def tEs (S : L2.St → Hp → Prop) (R : Hp → V → Prop) (n : Nat) : TA := fun σ H Q => S σ H ∧ ∀ H' vs, Same H H' → (∀ v ∈ vs, R H' v) → vs.length = n → Q vs H'
section
variable {X : Cx} {S : L2.St → Hp → Prop} {R : Hp → V → Prop}
theorem pa_e0 : PA X [] (tEs S R 0) := ⟨fun pos pins s σ H Q I h => pa_nil.run pos pins s σ H Q I (h.2 H [] (same_refl H) (fun v hv => nomatch hv) rfl)⟩
theorem pa_e {e : Expr} {es : List Expr} {n : Nat} (stS : ∀ σ H H', Same H H' → S σ H → S σ H') (stR : ∀ H H' v, Same H H' → R H v → R H' v) (h : PE X e (tE S R)) (g : PA X es (tEs S R n))
    (he : starEach (e :: es) X.env = (false, eval e X.env) :: starEach es X.env := by rfl) : PA X (e :: es) (tEs S R (n + 1)) := by
  refine ⟨fun pos pins s σ H Q I q => (pa_cons h g he).run pos pins s σ H Q I ?_⟩
  refine ⟨q.1, fun H1 v e1 hv => ⟨stS _ _ _ e1 q.1, fun H2 vs e2 hvs hl => q.2 H2 (v :: vs) (e1.trans e2) (fun u hu => ?_) (congrArg (· + 1) hl)⟩⟩
  rcases List.mem_cons.mp hu with z | z
  · rw [z]; exact stR _ _ _ e2 hv
  · exact hvs u z
theorem PE.e {e : Expr} {t : TE} (h : PE X e t) (i : ∀ σ H Q, S σ H → (∀ H' v, Same H H' → R H' v → Q v H') → t σ H Q) : PE X e (tE S R) := PE.imp h fun σ H Q q => i σ H Q q.1 q.2
/-! ## tuples: + and slices, any of them -/
theorem op_catB {K : PySem.W.Frag} (hK : X.K = K) : OpR X (binaryOp .Add) (fun x y H Q => ∃ a b xs ys, x = .ref a ∧ y = .ref b ∧ SqT K H a xs ∧ SqT K H b ys ∧ xs.length + ys.length ≤ sizeLine ∧ ∀ H' c, Same H H' → SqT K H' c (xs ++ ys) → Q (.ref c) H') := by
  subst hK
  intro pins s σ H x y v u Q I rx ry h
  obtain ⟨a, b, xs, ys, rfl, rfl, ha, hb, hz, q⟩ := h
  refine op_catA pins s σ H _ _ v u Q I rx ry ⟨a, b, xs, ys, rfl, rfl, ha, hb, hz, fun e => q H b (same_refl H) (by rw [e]; exact hb), fun _ e => q H a (same_refl H) (by rw [e, List.append_nil]; exact ha), fun _ _ p np => q _ p (same_new np) (.of upd_same)⟩
theorem cutV_whole {xs : List V} {lo hi : Option Int} (h : HT.sIx xs.length 0 lo = 0 ∧ HT.sIx xs.length xs.length hi = xs.length) : cutV xs lo hi = xs := by
  unfold cutV
  rw [h.1, h.2, List.drop_zero, Nat.sub_zero, List.take_length]
theorem sl_tupB {K : PySem.W.Frag} (hK : X.K = K) : SlR X (fun x lo hi H Q => ∃ a xs, x = .ref a ∧ SqT K H a xs ∧ ∀ H' b, Same H H' → SqT K H' b (cutV xs lo hi) → Q (.ref b) H') := by
  subst hK
  intro pins s σ H x v vl vu lo hi sl Q I rx hs pl pu h
  obtain ⟨a, xs, rfl, hx, q⟩ := h
  exact sl_tupA pins s σ H _ v vl vu lo hi sl Q I rx hs pl pu ⟨a, xs, rfl, hx, fun hw => q H a (same_refl H) (by rw [cutV_whole hw]; exact hx), fun _ p np => q _ p (same_new np) (.of upd_same)⟩
end
/-- all but the lists of H0 -/
def wl (H0 H : Hp) : Hp := fun b => match H0 b with
  | some (.lst _) => none
  | _ => H b
theorem wl_some {H0 H : Hp} {b : Addr} {o : HO} (h : wl H0 H b = some o) : (∀ xs, H0 b ≠ some (.lst xs)) ∧ H b = some o := by
  unfold wl at h
  split at h
  · exact nomatch h
  · rename_i n
    exact ⟨fun xs z => n xs z, h⟩
theorem wl_ne {H0 H : Hp} {b : Addr} (h : ∀ xs, H0 b ≠ some (.lst xs)) : wl H0 H b = H b := by
  unfold wl
  split
  · rename_i xs z
    exact absurd z (h xs)
  · rfl
theorem wl_same {H0 H H' : Hp} (e : Same H H') : Same (wl H0 H) (wl H0 H') := fun b o h => by
  obtain ⟨h1, h2⟩ := wl_some h
  rw [wl_ne h1]; exact e _ _ h2
theorem wl_but {p : Addr} {H0 H H' : Hp} (hp : PenAt H0 p) (e : But p H H') : Same (wl H0 H) (wl H0 H') := fun b o h => by
  obtain ⟨h1, h2⟩ := wl_some h
  obtain ⟨_, _, _, hp, _⟩ := hp
  rw [wl_ne h1]; exact e _ _ (fun z => h1 _ (by rw [z]; exact hp)) h2
theorem nw_wl {H0 H : Hp} : Same (nw H0 H) (wl H0 H) := fun b o h => by
  obtain ⟨h1, h2⟩ := nw_some h
  rw [wl_ne (fun xs z => by rw [h1] at z; exact nomatch z)]; exact h2
theorem wl_wo {H0 H : Hp} {p : Addr} {xs : List V} (hp : H0 p = some (.lst xs)) : Same (wl H0 H) (wo p H) := fun b o h => by
  obtain ⟨h1, h2⟩ := wl_some h
  rw [wo_ne (fun z => h1 _ (by rw [z]; exact hp))]; exact h2
theorem wl_wo2 {H0 H : Hp} {p q : Addr} {xs ys : List V} (hp : H0 p = some (.lst xs)) (hq : H0 q = some (.lst ys)) : Same (wl H0 H) (wo q (wo p H)) := fun b o h => by
  have h1 := wl_wo hp _ _ h
  obtain ⟨h3, _⟩ := wl_some h
  rw [wo_ne (fun z => h3 _ (by rw [z]; exact hq))]; exact h1
theorem PenAt.wl {K : PySem.W.Frag} {H0 H : Hp} {p a : Addr} {xs : List V} (hp : PenAt H p) (e : But p H0 H) (h : SqT K H a xs) : SqT K (wl H0 H) a xs := by
  obtain ⟨_, _, _, hp, _⟩ := hp
  have key : ∀ {o : HO}, H a = some o → (∀ ys, o ≠ .lst ys) → ∀ ys, H0 a ≠ some (.lst ys) := fun {o} h n ys z => by
    by_cases q : a = p
    · rw [q, hp] at h; exact n _ (Option.some.inj h).symm
    · rw [e _ _ q z] at h; exact n _ (Option.some.inj h).symm
  rcases h with (h | ⟨o, h⟩) | h
  · exact .inl (.inl (by rw [wl_ne (key h fun _ z => nomatch z)]; exact h))
  · exact .inl (.inr ⟨o, by rw [wl_ne (key h fun _ z => nomatch z)]; exact h⟩)
  · exact .inr h
/-! ## short data -/
def SmV (K : PySem.W.Frag) (H : Hp) (v : V) : Prop := ∃ d, Dp K H v d ∧ SmL 100 [d]
theorem SmV.same {K : PySem.W.Frag} {H H' : Hp} (e : Same H H') {v : V} (h : SmV K H v) : SmV K H' v := by
  obtain ⟨d, h1, h2⟩ := h
  exact ⟨d, Dp.same e h1, h2⟩
def okS (e : Expr) : Bool := match constE 12 e with
  | some d => smB 100 [d]
  | none => false
theorem okS_star {e : Expr} (h : okS e = true) : ∀ (es : List Expr) (env : Env), starEach (e :: es) env = (false, eval e env) :: starEach es env := by
  intro es env
  cases e with
  | Starred v p => simp [okS, constE] at h
  | _ => rfl
theorem pe_sm {X : Cx} {e : Expr} (h : okS e = true) : PE X e (fun _ H Q => ∀ H' v, Same H H' → SmV X.K (nw H H') v → Q v H') := by
  unfold okS at h
  split at h
  · rename_i d hd
    exact PE.imp (constE_ok 12 e d hd) fun σ H Q q => fun H' v e' hv => q H' v e' ⟨d, hv, smL_by h⟩
  · exact nomatch h
def tSms (K : PySem.W.Frag) (n : Nat) : TA := fun _ H Q => ∀ H' vs, Same H H' → (∀ v ∈ vs, SmV K (nw H H') v) → vs.length = n → Q vs H'
theorem pa_sms {X : Cx} : ∀ (es : List Expr), es.all okS = true → PA X es (tSms X.K es.length)
  | [], _ => ⟨fun pos pins s σ H Q I h => pa_nil.run pos pins s σ H Q I (h H [] (same_refl H) (fun _ z => nomatch z) rfl)⟩
  | e :: es, h => by
    rw [List.all_cons, Bool.and_eq_true] at h
    refine ⟨fun pos pins s σ H Q I q => (pa_cons (pe_sm h.1) (pa_sms es h.2) (okS_star h.1 _ _)).run pos pins s σ H Q I ?_⟩
    refine fun H1 v e1 hv => fun H2 vs e2 hvs hl => q H2 (v :: vs) (e1.trans e2) (fun u hu => ?_) (congrArg (· + 1) hl)
    rcases List.mem_cons.mp hu with z | z
    · rw [z]; exact hv.same (nw_same e2)
    · exact (hvs u z).same (nw_left e1)
theorem pe_smL {X : Cx} {es : List Expr} {p : Pos} {n : Nat} (h : es.all okS = true) (hn : es.length = n) (hs : n ≤ 1000) :
    PE X (.List es p) (fun _ H Q => ∀ H' l vs, Same H H' → H l = none → H' l = some (.lst vs) → (∀ v ∈ vs, SmV X.K (nw H H') v) → vs.length = n → Q (.ref l) H') := by
  refine PE.imp (pe_lst (pa_sms es h)) fun σ H Q q => ?_
  intro H1 vs e1 hvs hl
  have big : 1000 ≤ sizeLine := by rw [sizeLine_eq]; decide
  exact ⟨by omega, fun l nl => q _ l vs (e1.trans (same_new nl)) (same_none e1 nl) upd_same (fun v hv => (hvs v hv).same (nw_same (same_new nl))) (by omega)⟩
end Sg
set_option Elab.async false
set_option linter.all false
set_option maxRecDepth 100000
set_option maxHeartbeats 4000000
namespace Sg
open PySem PySem.Spec PyProof.Rows L2
/-! ## data is kept where only tables change -/
abbrev ExtN := @LamX.ExtN
theorem ext_of {H H' : Hp} (e : Same H H') : LamX.ExtN H H' := fun b o h _ => e b o h
theorem ext_tup {K : PySem.W.Frag} {H H' : Hp} {a : Addr} {xs : List V} (e : LamX.ExtN H H') (h : SqT K H a xs) : SqT K H' a xs := by
  rcases h with (h | ⟨o, h⟩) | h
  · exact .inl (.inl (e _ _ h fun ps z => nomatch z))
  · exact .inl (.inr ⟨o, e _ _ h fun ps z => nomatch z⟩)
  · exact .inr h
theorem ext_lst {K : PySem.W.Frag} {H H' : Hp} {a : Addr} {xs : List V} (e : LamX.ExtN H H') (h : SqL K H a xs) : SqL K H' a xs := by
  rcases h with (h | ⟨o, h⟩) | h
  · exact .inl (.inl (e _ _ h fun ps z => nomatch z))
  · exact .inl (.inr ⟨o, e _ _ h fun ps z => nomatch z⟩)
  · exact .inr h
mutual
theorem Dp.ext {K : PySem.W.Frag} {H H' : Hp} (e : LamX.ExtN H H') : ∀ {v : V} {d : PyData}, Dp K H v d → Dp K H' v d
  | _, _, .non => .non
  | _, _, .bl b => .bl b
  | _, _, .int i => .int i
  | _, _, .str x => .str x
  | _, _, .lst h r => .lst (ext_lst e h) (DpAll.ext e r)
  | _, _, .tup h r => .tup (ext_tup e h) (DpAll.ext e r)
theorem DpAll.ext {K : PySem.W.Frag} {H H' : Hp} (e : LamX.ExtN H H') : ∀ {vs : List V} {ds : List PyData}, DpAll K H vs ds → DpAll K H' vs ds
  | _, _, .nil => .nil
  | _, _, .cons a r => .cons (Dp.ext e a) (DpAll.ext e r)
end
mutual
theorem Tp.ext {K : PySem.W.Frag} {H H' : Hp} (e : LamX.ExtN H H') : ∀ {v : V} {d : PyData}, Tp K H v d → Tp K H' v d
  | _, _, .int i => .int i
  | _, _, .tu h r => .tu (ext_tup e h) (TpAll.ext e r)
theorem TpAll.ext {K : PySem.W.Frag} {H H' : Hp} (e : LamX.ExtN H H') : ∀ {vs : List V} {ds : List PyData}, TpAll K H vs ds → TpAll K H' vs ds
  | _, _, .no => .no
  | _, _, .on a r => .on (Tp.ext e a) (TpAll.ext e r)
end
theorem Aq.ext {K : PySem.W.Frag} {H H' : Hp} (e : LamX.ExtN H H') {v : V} {d : PyData} (h : Aq K H v d) : Aq K H' v d := by
  cases h with
  | data h => exact .data (Dp.ext e h)
  | dic h g =>
    refine .dic (e _ _ h fun ps z => nomatch z) ?_
    cases g with
    | no => exact .no
    | one t => exact .one (Tp.ext e t)
theorem AnyV.ext {K : PySem.W.Frag} {H H' : Hp} (e : LamX.ExtN H H') {v : V} (h : AnyV K H v) : AnyV K H' v := by
  obtain ⟨d, h1, h2⟩ := h
  exact ⟨d, h1.ext e, h2⟩
theorem PenAt.ext {H H' : Hp} {p : Addr} (e : LamX.ExtN H H') (h : PenAt H p) : PenAt H' p := by
  obtain ⟨a, b, c, h1, h2⟩ := h
  exact ⟨a, b, c, e _ _ h1 (fun ps z => nomatch z), h2⟩
theorem FrzT.ext {H H' : Hp} (e : LamX.ExtN H H') {a : Addr} {xs : List V} (h : FrzT H a xs) : FrzT H' a xs := by
  obtain ⟨ob, h1, h2⟩ := h
  exact ⟨ob, e _ _ h1 (fun ps z => nomatch z), h2⟩
theorem ext_free {H H' : Hp} {b : Addr} (e : LamX.ExtN H H') (h : H' b = none) {o : HO} (g : H b = some o) : ∃ ps, o = .tbl ps := by
  by_cases z : ∀ ps, o ≠ .tbl ps
  · rw [e _ _ g z] at h; exact nomatch h
  · exact Classical.not_forall_not.mp fun q => z fun ps y => q ps y
theorem tabs_but {T : List (Addr × Str)} {p : Addr} {H H' : Hp} (hp : PenAt H p) (e : But p H H') (t : LamX.Tabs T H) : LamX.Tabs T H' := fun x hx => by
  obtain ⟨_, _, _, hp, _⟩ := hp
  obtain ⟨ps, h1, h2, h3⟩ := t x hx
  refine ⟨ps, e _ _ (ne_of h1 hp fun z => nomatch z) h1, h2, fun pos cv hc => ?_⟩
  obtain ⟨c, e1, e2⟩ := h3 pos cv hc
  exact ⟨c, e1, e _ _ (ne_of e2 hp fun z => by unfold LamX.CodeO at z; exact nomatch z) e2⟩
theorem tabs_same {T : List (Addr × Str)} {H H' : Hp} (e : Same H H') (t : LamX.Tabs T H) : LamX.Tabs T H' := t.ext e
/-! ## the code object of a def that makes lambdas -/
theorem tab_code {K : PySem.W.Frag} {x : Str} {f c P : Addr} {fd : FuncData} {oc : Value} {od : Option Addr} {sl : Array (Option Value)} (h1 : PySem.W.nsIn K mainGlobals x = some (some (.ref f)))
    (h2 : K.lookup f = some ⟨oc, od, .func fd, sl⟩) (h3 : PySem.W.tabIn K x = some (c, P)) : fd.code = .ref c := by
  unfold PySem.W.tabIn at h3
  rw [h1] at h3
  simp only [h2] at h3
  split at h3
  · split at h3
    · split at h3
      · have := Option.some.inj h3
        rw [Prod.mk.injEq] at this
        rw [‹fd.code = _›, this.1]
      · exact nomatch h3
    · exact nomatch h3
  · exact nomatch h3
section
variable {P : Program} {w : World} {K : PySem.W.Frag} {mg : Str → Option Value} {base : Heap} {k : Nat} {f : Addr}
variable {fd : FuncData} {ps : List Str} {sp : Sp}
theorem fnG_mkC {x qual : Str} {st : Stmt} {N : List Str} {c : Addr} (F : Fun K x qual st f fd) (hc : fd.code = .ref c)
    (S : FnScope N ps (defScope st)) (arity : ∀ vs H Q, sp vs H Q E0 → vs.length = ps.length)
    (hbody : ∀ (A : Around) (outer : List Env) (s : Shared) (H : Hp) (vs : List V) (Q : VK),
      (A.deeper (envOfC qual (defScope st) s.heap.objs.size f (.ref c))).guards = some [] →
      Room k (A.deeper (envOfC qual (defScope st) s.heap.objs.size f (.ref c))) → sp vs H Q E0 →
      ∃ t, PSs (cxOf CX0 P w K mg base N qual (defScope st) f (.ref c) A outer s H E0).nox (defBody st) t ∧
        t { nx := fun _ H' => Q .non H', rt := Q } (start N vs) H) :
    FnG P w K mg base (k + 1) f fd ps sp := by
  obtain ⟨oc, od, kV, doc, pm, an, cdv, ct, osl, rfl, lk, hcd⟩ := F.ex
  obtain rfl : cdv = .ref c := hc
  refine ⟨arity, ?_⟩
  intro A outer s H args us vs Q hg hr e0 hb r hsp
  have hl := arity _ _ _ hsp
  have hk0 : ∀ b o, base.get? b = some o → s.heap.get? b = some o := fun b o e => (e0.bs b o e).1
  have KX : K.In s.heap := e0.mod.kin.keeps hk0
  have lim : s.heap.NoLimit := e0.mod.nolimit.keeps hk0
  refine codeAny_call_function hr.depth (KX _ _ lk) rfl S.co S.gen rfl (PySem.W.codeRec_of KX hcd) ?_
  refine hb _ _ _ _ (wpAny_newFunctionEnv_cells S.kind ?_ ?_)
  · rintro ⟨n, v⟩ hy
    have hn := S.par n (List.of_mem_zip hy).1
    cases hn with
    | inl q => exact .inl q
    | inr q => exact .inr ⟨q, PySem.W.cellsFrom_some _ _ _ (.inl q)⟩
  · intro env he s1 x
    subst he
    refine ⟨lim.keeps x.toInCall.keep, ?_⟩
    apply codeAny_func
    obtain ⟨t, ht, hq⟩ := hbody A outer s H vs Q hg (hr.deeper _) hsp
    have ht' := ht.nox
    have I := inv_start (CX := CX0) (E := E0) (cd := .ref c) (qual := qual) (f := f) S hr.hd e0 hl r x
    refine wpAny_mono (ht'.run [] s1 (start N vs) H _ I hq) ?_ (fun e s' hs => hs)
    intro fl s' hs
    cases fl with
    | ret u =>
      obtain ⟨v, σ', H', J, rv, q⟩ := hs
      exact ⟨v, H', J.os, J.bare, J.base, J.hok, rv, q⟩
    | next =>
      obtain ⟨σ', H', J, q⟩ := hs
      exact ⟨V.non, H', J.os, J.bare, J.base, J.hok, rfl, q⟩
    | brk => obtain ⟨_, _, _, q⟩ := hs; exact q.elim
    | cont => obtain ⟨_, _, _, q⟩ := hs; exact q.elim
end
end Sg
set_option Elab.async false
set_option linter.all false
set_option maxRecDepth 100000
set_option maxHeartbeats 4000000
namespace Sg
open PySem PySem.Spec PyProof.Rows L2
section
variable {K : PySem.W.Frag} {D C : Addr}
theorem kit_no (h0 : PySem.W.subIn K (.ref D) (.ref D) = some true) (i : PySem.W.isClsIn K C = true) (t : PySem.W.typeIn K (.ref C) = some (.type "type")) (s : PySem.W.subIn K (.ref D) (.ref C) = some false) : PySem.W.kitOne K (.ref D) (.ref C) = some false := by
  have ne : ¬ ((Value.ref D == Value.ref C) = true) := fun z => by
    have e : Value.ref D = Value.ref C := by simpa using z
    rw [← e, h0] at s
    exact nomatch s
  unfold PySem.W.kitOne
  rw [if_neg ne]
  have i' : (PySem.W.clsIn K C).isSome = true := i
  show (if ((PySem.W.clsIn K C).isSome && PySem.W.typeIn K (.ref C) == some (.type "type")) = true then PySem.W.subIn K (.ref D) (.ref C) else none) = some false
  rw [i', t]
  exact s
theorem kit_self : PySem.W.kitOne K (.ref D) (.ref D) = some true := by unfold PySem.W.kitOne; simp
theorem kit_val (s : PySem.W.subIn K (.ref D) (.type "ValueError") = some true) : PySem.W.kitOne K (.ref D) (.type "ValueError") = some true := by
  unfold PySem.W.kitOne
  rw [if_neg (by simp)]
  show (if PySem.W.kitMeta "ValueError" = true then PySem.W.subIn K (.ref D) (.type "ValueError") else none) = some true
  rw [if_pos (by decide +kernel)]
  exact s
theorem exm_sub (h1 : PySem.W.subIn K (.ref C) (.type "BaseException") = some true) (h2 : PySem.W.isClsIn K C = true) (h3 : PySem.W.typeIn K (.ref C) = some (.type "type")) (h4 : PySem.W.subIn K (.ref D) (.ref C) = some true) :
    PySem.W.exmOne K (.ref D) (.ref C) = some true := by
  have e1 : (PySem.W.subIn K (.ref C) (.type "BaseException") == some true) = true := by rw [h1] <;> rfl
  have h2' : (PySem.W.clsIn K C).isSome = true := h2
  have e2 : ((PySem.W.clsIn K C).isSome && PySem.W.typeIn K (.ref C) == some (.type "type")) = true := by rw [h2', h3] <;> rfl
  show (if (PySem.W.subIn K (.ref C) (.type "BaseException") == some true) = true then (if ((PySem.W.clsIn K C).isSome && PySem.W.typeIn K (.ref C) == some (.type "type")) = true then PySem.W.subIn K (.ref D) (.ref C) else none) else none) = some true
  rw [if_pos e1, if_pos e2]
  exact h4
end
end Sg
set_option Elab.async false
set_option linter.all false
set_option maxRecDepth 100000
set_option maxHeartbeats 4000000
namespace Sg
open PySem PySem.Spec PyProof.Rows L2
/-! ## short data, a dict at most on top -/
def AnyS (K : PySem.W.Frag) (H : Hp) (v : V) : Prop := ∃ d, Aq K H v d ∧ GoodD d ∧ d.bulk ≤ 900
theorem AnyS.same {K : PySem.W.Frag} {H H' : Hp} (e : Same H H') {v : V} (h : AnyS K H v) : AnyS K H' v := by
  obtain ⟨d, h1, h2⟩ := h
  exact ⟨d, h1.same e, h2⟩
theorem AnyS.ext {K : PySem.W.Frag} {H H' : Hp} (e : LamX.ExtN H H') {v : V} (h : AnyS K H v) : AnyS K H' v := by
  obtain ⟨d, h1, h2⟩ := h
  exact ⟨d, h1.ext e, h2⟩
theorem AnyS.any {K : PySem.W.Frag} {H : Hp} {v : V} (h : AnyS K H v) : AnyV K H v := by
  obtain ⟨d, h1, h2, _⟩ := h
  exact ⟨d, h1, h2⟩
def AllS (K : PySem.W.Frag) (H : Hp) (vs : List V) : Prop := ∀ v ∈ vs, AnyS K H v
theorem AllS.same {K : PySem.W.Frag} {H H' : Hp} (e : Same H H') {vs : List V} (h : AllS K H vs) : AllS K H' vs := fun v hv => (h v hv).same e
theorem AllS.app {K : PySem.W.Frag} {H : Hp} {vs us : List V} (h : AllS K H vs) (g : AllS K H us) : AllS K H (vs ++ us) := fun v hv => (List.mem_append.mp hv).elim (h v) (g v)
/-! ## what is no instance of an own class -/
def PlainV (K : PySem.W.Frag) (H : Hp) (v : V) : Prop := ∃ d : PyData, TyX K H v (.type (tyN d))
theorem AnyV.plain {K : PySem.W.Frag} {H : Hp} {v : V} (h : AnyV K H v) : PlainV K H v := by
  obtain ⟨d, h1, _⟩ := h
  exact ⟨d, aq_ty h1⟩
theorem call_isiP {X : Cx} {K : PySem.W.Frag} {C : Addr} (hK : X.K = K) (hC : NoInst K C) : CallR X (.builtin "isinstance") (fun xs H Q => ∃ v, xs = [v, .ref C] ∧ PlainV K H v ∧ Q (.bl false) H) := by
  subst hK
  intro pins s σ H xs us Q I r h
  obtain ⟨v, rfl, ⟨d, hd⟩, q⟩ := h
  exact call_isi pins s σ H _ us Q I r ⟨v, .ref C, _, _, _, rfl, .own C, hd, hC d, q⟩
/-! ## laps, worths: of any data -/
end Sg
set_option Elab.async false
set_option linter.all false
set_option maxRecDepth 100000
set_option maxHeartbeats 4000000
set_option Elab.async false
set_option linter.all false
set_option maxRecDepth 100000
set_option maxHeartbeats 4000000
namespace Sg
open PySem PySem.Spec PyProof.Rows L2
/-! ## data that may hold a Line: to the built-in types a Line looks as None does -/
mutual
inductive Lp (K : PySem.W.Frag) (C : Addr) (H : Hp) : V → PyData → Prop
  | non : Lp K C H .non .none
  | bl (b : Bool) : Lp K C H (.bl b) (.bool b)
  | int (i : Int) : Lp K C H (.int i) (.int i)
  | str (x : Str) : Lp K C H (.str x) (.str x)
  | lst {a : Addr} {xs : List V} {ds : List PyData} : SqL K H a xs → LpAll K C H xs ds → Lp K C H (.ref a) (.list ds)
  | tup {a : Addr} {xs : List V} {ds : List PyData} : SqT K H a xs → LpAll K C H xs ds → Lp K C H (.ref a) (.tuple ds)
  | line {a : Addr} {ws : List (List Int)} : LineAt K C H a ws → Lp K C H (.ref a) .none
  | dic {a : Addr} {kvs : List (L2.Key × V)} : H a = some (.dK kvs) → Lp K C H (.ref a) (.dict [])
inductive LpAll (K : PySem.W.Frag) (C : Addr) (H : Hp) : List V → List PyData → Prop
  | nil : LpAll K C H [] []
  | cons {v : V} {vs : List V} {d : PyData} {ds : List PyData} : Lp K C H v d → LpAll K C H vs ds → LpAll K C H (v :: vs) (d :: ds)
end
mutual
theorem Lp.ext {K : PySem.W.Frag} {C : Addr} {H H' : Hp} (e : LamX.ExtN H H') : ∀ {v : V} {d : PyData}, Lp K C H v d → Lp K C H' v d
  | _, _, .non => .non
  | _, _, .bl b => .bl b
  | _, _, .int i => .int i
  | _, _, .str x => .str x
  | _, _, .lst h r => .lst (ext_lst e h) (LpAll.ext e r)
  | _, _, .tup h r => .tup (ext_tup e h) (LpAll.ext e r)
  | _, _, .line h => .line (h.stay ⟨fun _ _ z => ext_tup e z, fun _ _ _ _ z => e _ _ z fun ps y => nomatch y⟩)
  | _, _, .dic h => .dic (e _ _ h fun ps y => nomatch y)
theorem LpAll.ext {K : PySem.W.Frag} {C : Addr} {H H' : Hp} (e : LamX.ExtN H H') : ∀ {vs : List V} {ds : List PyData}, LpAll K C H vs ds → LpAll K C H' vs ds
  | _, _, .nil => .nil
  | _, _, .cons a r => .cons (Lp.ext e a) (LpAll.ext e r)
end
theorem Lp.same {K : PySem.W.Frag} {C : Addr} {H H' : Hp} (e : Same H H') {v : V} {d : PyData} (h : Lp K C H v d) : Lp K C H' v d := h.ext (ext_of e)
theorem LpAll.same {K : PySem.W.Frag} {C : Addr} {H H' : Hp} (e : Same H H') {vs : List V} {ds : List PyData} (h : LpAll K C H vs ds) : LpAll K C H' vs ds := h.ext (ext_of e)
theorem LpAll.len {K : PySem.W.Frag} {C : Addr} {H : Hp} : ∀ {vs : List V} {ds : List PyData}, LpAll K C H vs ds → vs.length = ds.length
  | _, _, .nil => rfl
  | _, _, .cons _ r => congrArg (· + 1) (LpAll.len r)
theorem LpAll.at {K : PySem.W.Frag} {C : Addr} {H : Hp} : ∀ {vs : List V} {ds : List PyData} {i : Nat} {v : V}, LpAll K C H vs ds → vs[i]? = some v → ∃ d, ds[i]? = some d ∧ Lp K C H v d
  | _, _, _, _, .nil, h => nomatch h
  | _, _, 0, _, .cons a _, h => by cases h; exact ⟨_, rfl, a⟩
  | _, _, i + 1, _, .cons _ r, h => LpAll.at (i := i) r h
mutual
theorem Dp.lp {K : PySem.W.Frag} {C : Addr} {H : Hp} : ∀ {v : V} {d : PyData}, Dp K H v d → Lp K C H v d
  | _, _, .non => .non
  | _, _, .bl b => .bl b
  | _, _, .int i => .int i
  | _, _, .str x => .str x
  | _, _, .lst h r => .lst h (DpAll.lp r)
  | _, _, .tup h r => .tup h (DpAll.lp r)
theorem DpAll.lp {K : PySem.W.Frag} {C : Addr} {H : Hp} : ∀ {vs : List V} {ds : List PyData}, DpAll K H vs ds → LpAll K C H vs ds
  | _, _, .nil => .nil
  | _, _, .cons a r => .cons (Dp.lp a) (DpAll.lp r)
end
theorem Lp.tuple_inv {K : PySem.W.Frag} {C : Addr} {H : Hp} {v : V} {ds : List PyData} (h : Lp K C H v (.tuple ds)) : ∃ a xs, v = .ref a ∧ SqT K H a xs ∧ LpAll K C H xs ds := by
  cases h with
  | tup h1 h2 => exact ⟨_, _, rfl, h1, h2⟩
theorem Lp.int_inv {K : PySem.W.Frag} {C : Addr} {H : Hp} {v : V} {i : Int} (h : Lp K C H v (.int i)) : v = .int i := by
  cases h; rfl
theorem lpInts_v {K : PySem.W.Frag} {C : Addr} {H : Hp} : ∀ {xs : List V} {ns : List Int}, LpAll K C H xs (iD ns) → xs = ns.map V.int
  | [], [], _ => rfl
  | _ :: _, [], h => by cases h
  | [], _ :: _, h => by cases h
  | x :: xs, n :: ns, h => by
    cases h with
    | cons a r =>
      rw [Lp.int_inv a, lpInts_v (ns := ns) r]; rfl
/-- what a Line is to the built-in types -/
structure LineKit (K : PySem.W.Frag) (C : Addr) : Prop where
  ty : ∀ {H : Hp} {a : Addr} {ws : List (List Int)}, LineAt K C H a ws → TyX K H (.ref a) (.ref C)
  no : ∀ u ∈ ["tuple", "int", "bool", "str", "list"], PySem.W.kitOne K (.ref C) (.type u) = some false
theorem call_isiL {X : Cx} {K : PySem.W.Frag} {C : Addr} (hK : X.K = K) (L : LineKit K C) : CallR X (.builtin "isinstance") (fun xs H Q => ∃ v d u, xs = [v, .ty u] ∧ Lp K C H v d ∧ (u = "tuple" ∨ u = "int" ∨ u = "bool" ∨ u = "str" ∨ u = "list") ∧ Q (.bl (isB u d)) H) := by
  subst hK
  intro pins s σ H xs us Q I r h
  obtain ⟨v, d, u, rfl, hd, hu, q⟩ := h
  have plain : ∀ d' : PyData, TyX X.K H v (.type (tyN d')) → d' = d → wpAny (model X.prog X.w) X.A (call (.builtin "isinstance") us) (EP X pins σ Q) X.xe s := fun d' ty e => by
    subst e
    exact call_isi pins s σ H _ us Q I r ⟨v, .ty u, _, _, _, rfl, .ty _, ty, kit_ty (isB_kit hu d'), q⟩
  cases hd with
  | non => exact plain .none (.base .non) rfl
  | bl b => exact plain (.bool b) (.base (.bl b)) rfl
  | int i => exact plain (.int i) (.base (.int i)) rfl
  | str x => exact plain (.str x) (.base (.str x)) rfl
  | lst h _ => exact plain (.list _) (tyL h) rfl
  | tup h _ => exact plain (.tuple _) (tyT h) rfl
  | dic h => exact plain (.dict []) (.base (.dK h)) rfl
  | line h =>
    have e : isB u .none = false := by rcases hu with rfl | rfl | rfl | rfl | rfl <;> rfl
    rw [e] at q
    have hm : u ∈ ["tuple", "int", "bool", "str", "list"] := by rcases hu with rfl | rfl | rfl | rfl | rfl <;> simp
    exact call_isi pins s σ H _ us Q I r ⟨_, .ty u, .ref C, .type u, false, rfl, .ty _, L.ty h, L.no u hm, q⟩
end Sg
set_option Elab.async false
set_option linter.all false
set_option maxRecDepth 100000
set_option maxHeartbeats 4000000
namespace Sg
open PySem PySem.Spec PyProof.Rows L2
/-! the places of the text -/
def topS (i : Nat) : Stmt := PySem.Challenge.pw_startgaps_k06_lines_refuse.main.body.getD i (.Pass ⟨0, 0, 0, 0⟩)
abbrev s_TooMany_init : Stmt := inClass (topS 26) 0
theorem sc_TooMany_init : FnScope ["self", "amount", "limit"] ["self", "amount", "limit"] (defScope s_TooMany_init) := ⟨rfl, rfl, rfl, by decide +kernel, rfl, by decide +kernel, by decide +kernel⟩
abbrev s_is_int : Stmt := topS 32
theorem sc_is_int : FnScope ["thing"] ["thing"] (defScope s_is_int) := ⟨rfl, rfl, rfl, by decide +kernel, rfl, by decide +kernel, by decide +kernel⟩
abbrev s_is_between : Stmt := topS 33
theorem sc_is_between : FnScope ["thing", "least", "most"] ["thing", "least", "most"] (defScope s_is_between) := ⟨rfl, rfl, rfl, by decide +kernel, rfl, by decide +kernel, by decide +kernel⟩
abbrev s_is_work : Stmt := topS 38
theorem sc_is_work : FnScope ["thing", "item"] ["thing"] (defScope s_is_work) := ⟨rfl, rfl, rfl, by decide +kernel, rfl, by decide +kernel, by decide +kernel⟩
abbrev s_bars : Stmt := topS 39
theorem sc_bars : FnScope ["one", "other", "distance"] ["one", "other"] (defScope s_bars) := ⟨rfl, rfl, rfl, by decide +kernel, rfl, by decide +kernel, by decide +kernel⟩
abbrev s_require_work : Stmt := topS 40
theorem sc_require_work : FnScope ["thing"] ["thing"] (defScope s_require_work) := ⟨rfl, rfl, rfl, by decide +kernel, rfl, by decide +kernel, by decide +kernel⟩
abbrev s_clashes_behind : Stmt := topS 41
theorem sc_clashes_behind : FnScope ["one", "other", "distance", "here", "there"] ["one", "other", "distance"] (defScope s_clashes_behind) := ⟨rfl, rfl, rfl, by decide +kernel, rfl, by decide +kernel, by decide +kernel⟩
abbrev s_is_kind : Stmt := topS 44
theorem sc_is_kind : FnScope ["line", "thing"] ["line", "thing"] (defScope s_is_kind) := ⟨rfl, rfl, rfl, by decide +kernel, rfl, by decide +kernel, by decide +kernel⟩
abbrev s_require_kind : Stmt := topS 45
theorem sc_require_kind : FnScope ["line", "thing"] ["line", "thing"] (defScope s_require_kind) := ⟨rfl, rfl, rfl, by decide +kernel, rfl, by decide +kernel, by decide +kernel⟩
abbrev s_bars_of_all : Stmt := topS 46
theorem sc_bars_of_all : FnScope ["works", "other", "one"] ["works"] (defScope s_bars_of_all) := ⟨rfl, rfl, rfl, by decide +kernel, rfl, by decide +kernel, by decide +kernel⟩
abbrev s_Line_init : Stmt := inClass (topS 47) 0
theorem sc_Line_init : FnScope ["self", "works", "work", "row", "pair", "bar"] ["self", "works"] (defScope s_Line_init) := ⟨rfl, rfl, rfl, by decide +kernel, rfl, by decide +kernel, by decide +kernel⟩
abbrev s_Line_works : Stmt := inClass (topS 47) 1
theorem sc_Line_works : FnScope ["self"] ["self"] (defScope s_Line_works) := ⟨rfl, rfl, rfl, by decide +kernel, rfl, by decide +kernel, by decide +kernel⟩
abbrev s_Line_len : Stmt := inClass (topS 47) 3
theorem sc_Line_len : FnScope ["self"] ["self"] (defScope s_Line_len) := ⟨rfl, rfl, rfl, by decide +kernel, rfl, by decide +kernel, by decide +kernel⟩
abbrev s_Line_getitem : Stmt := inClass (topS 47) 4
theorem sc_Line_getitem : FnScope ["self", "at"] ["self", "at"] (defScope s_Line_getitem) := ⟨rfl, rfl, rfl, by decide +kernel, rfl, by decide +kernel, by decide +kernel⟩
abbrev s_Line_call : Stmt := inClass (topS 47) 6
theorem sc_Line_call : FnScope ["self", "one", "other"] ["self", "one", "other"] (defScope s_Line_call) := ⟨rfl, rfl, rfl, by decide +kernel, rfl, by decide +kernel, by decide +kernel⟩
abbrev s_Line_add : Stmt := inClass (topS 47) 7
theorem sc_Line_add : FnScope ["self", "other", "works"] ["self", "other"] (defScope s_Line_add) := ⟨rfl, rfl, rfl, by decide +kernel, rfl, by decide +kernel, by decide +kernel⟩
abbrev s_Line_sub : Stmt := inClass (topS 47) 9
theorem sc_Line_sub : FnScope ["self", "other", "works"] ["self", "other"] (defScope s_Line_sub) := ⟨rfl, rfl, rfl, by decide +kernel, rfl, by decide +kernel, by decide +kernel⟩
abbrev s_Line_neg : Stmt := inClass (topS 47) 10
theorem sc_Line_neg : FnScope ["self", "works", "work"] ["self"] (defScope s_Line_neg) := ⟨rfl, rfl, rfl, by decide +kernel, rfl, by decide +kernel, by decide +kernel⟩
abbrev s_Line_eq : Stmt := inClass (topS 47) 11
theorem sc_Line_eq : FnScope ["self", "other"] ["self", "other"] (defScope s_Line_eq) := ⟨rfl, rfl, rfl, by decide +kernel, rfl, by decide +kernel, by decide +kernel⟩
abbrev s_Line_repr : Stmt := inClass (topS 47) 12
theorem sc_Line_repr : FnScope ["self"] ["self"] (defScope s_Line_repr) := ⟨rfl, rfl, rfl, by decide +kernel, rfl, by decide +kernel, by decide +kernel⟩
abbrev s_l_cell : Stmt := topS 49
theorem sc_l_cell : FnScope ["_law_script", "_law_k"] ["_law_script", "_law_k"] (defScope s_l_cell) := ⟨rfl, rfl, rfl, by decide +kernel, rfl, by decide +kernel, by decide +kernel⟩
abbrev s_l_pen : Stmt := topS 50
theorem sc_l_pen : FnScope ["_law_cell_here"] ["_law_cell_here"] (defScope s_l_pen) := ⟨rfl, rfl, rfl, by decide +kernel, rfl, by decide +kernel, by decide +kernel⟩
abbrev s_l_draw : Stmt := topS 51
theorem sc_l_draw : FnScope ["_law_pen_here", "_law_many", "_law_found", "_law_stirred"] ["_law_pen_here", "_law_many"] (defScope s_l_draw) := ⟨rfl, rfl, rfl, by decide +kernel, rfl, by decide +kernel, by decide +kernel⟩
abbrev s_l_pick : Stmt := topS 52
theorem sc_l_pick : FnScope ["_law_pen_here", "_law_some"] ["_law_pen_here", "_law_some"] (defScope s_l_pick) := ⟨rfl, rfl, rfl, by decide +kernel, rfl, by decide +kernel, by decide +kernel⟩
abbrev s_l_is_whole : Stmt := topS 53
theorem sc_l_is_whole : FnScope ["_law_thing", "_law_low", "_law_high"] ["_law_thing", "_law_low", "_law_high"] (defScope s_l_is_whole) := ⟨rfl, rfl, rfl, by decide +kernel, rfl, by decide +kernel, by decide +kernel⟩
abbrev s_l_is_work : Stmt := topS 54
theorem sc_l_is_work : FnScope ["_law_thing", "_law_one"] ["_law_thing"] (defScope s_l_is_work) := ⟨rfl, rfl, rfl, by decide +kernel, rfl, by decide +kernel, by decide +kernel⟩
abbrev s_l_work : Stmt := topS 55
theorem sc_l_work : FnScope ["_law_pen_here", "_law_most", "_law_stations", "_law_way", "_law_long", "_law_items", "_law_turn"] ["_law_pen_here", "_law_most", "_law_stations"] (defScope s_l_work) := ⟨rfl, rfl, rfl, by decide +kernel, rfl, by decide +kernel, by decide +kernel⟩
abbrev s_l_made : Stmt := topS 56
theorem sc_l_made : FnScope ["_law_works_here"] ["_law_works_here"] (defScope s_l_made) := ⟨rfl, rfl, rfl, by decide +kernel, rfl, by decide +kernel, by decide +kernel⟩
abbrev s_l_works : Stmt := topS 57
theorem sc_l_works : FnScope ["_law_pen_here", "_law_many", "_law_stations", "_law_turn"] ["_law_pen_here"] (defScope s_l_works) := ⟨rfl, rfl, rfl, by decide +kernel, rfl, by decide +kernel, by decide +kernel⟩
abbrev s_l_odds : Stmt := topS 58
theorem sc_l_odds : FnScope ["_law_found"] [] (defScope s_l_odds) := ⟨rfl, rfl, rfl, by decide +kernel, rfl, by decide +kernel, by decide +kernel⟩
abbrev s_l_great : Stmt := topS 59
theorem sc_l_great : FnScope ["_law_deep", "_law_turn"] [] (defScope s_l_great) := ⟨rfl, rfl, rfl, by decide +kernel, rfl, by decide +kernel, by decide +kernel⟩
abbrev s_l_bend : Stmt := topS 60
theorem sc_l_bend : FnScope ["_law_pen_here", "_law_row", "_law_one", "_law_spot", "_law_found", "_law_other"] ["_law_pen_here", "_law_row"] (defScope s_l_bend) := ⟨rfl, rfl, rfl, by decide +kernel, rfl, by decide +kernel, by decide +kernel⟩
abbrev s_l_kind : Stmt := topS 61
theorem sc_l_kind : FnScope ["_law_e", "_law_marks", "_law_words"] ["_law_e"] (defScope s_l_kind) := ⟨rfl, rfl, rfl, by decide +kernel, rfl, by decide +kernel, by decide +kernel⟩
abbrev s_l_said : Stmt := topS 62
theorem sc_l_said : FnScope ["_law_call", "_law_e", "_law_word"] ["_law_call"] (defScope s_l_said) := ⟨rfl, rfl, rfl, by decide +kernel, rfl, by decide +kernel, by decide +kernel⟩
abbrev s_l_kinds_refused : Stmt := topS 63
theorem sc_l_kinds_refused : FnScope ["_law_made_here", "_law_bad", "_law_words"] ["_law_made_here", "_law_bad"] (defScope s_l_kinds_refused) := ⟨rfl, rfl, rfl, by decide +kernel, rfl, by decide +kernel, by decide +kernel⟩
abbrev s_l_thing_right : Stmt := topS 64
theorem sc_l_thing_right : FnScope ["_law_made_here", "_law_work_here", "_law_thing", "_law_kept", "_law_words"] ["_law_made_here", "_law_work_here", "_law_thing"] (defScope s_l_thing_right) := ⟨rfl, rfl, rfl, by decide +kernel, rfl, by decide +kernel, by decide +kernel⟩
abbrev s_law : Stmt := topS 65
theorem sc_law : FnScope ["_law_script", "_law_cell_here", "_law_pen_here", "_law_works_here", "_law_work_here", "_law_made_here", "_law_lone", "_law_things", "_law_turn", "_law_thing", "_law_words", "_law_due"] ["_law_script"] (defScope s_law) := ⟨rfl, rfl, rfl, by decide +kernel, rfl, by decide +kernel, by decide +kernel⟩
end Sg
set_option Elab.async false
set_option linter.all false
set_option maxRecDepth 100000
set_option maxHeartbeats 4000000
namespace Sg
open PySem PySem.Spec PyProof.Rows L2 StX
section
variable {P : Program} {w : World} {K : PySem.W.Frag} {mg : Str → Option Value} {base : Heap}
def spIsInt : Sp := fun vs H Q _ => ∃ i : Int, vs = [.int i] ∧ Q (.bl true) H
theorem ok_is_int {f : Addr} {fd : FuncData} {k : Nat} (F : Fun K "is_int" "is_int" s_is_int f fd) (m1 : mg "isinstance" = none) (m2 : mg "int" = none) (m3 : mg "bool" = none) :
    FnOk P w K mg base CX0 (k + 1) f fd ["thing"] spIsInt := by
  refine F.ok sc_is_int (fun vs H Q E h => ?_) (fun cdv A outer s H vs Q E hr h => ?_)
  · obtain ⟨i, rfl, _⟩ := h; rfl
  · obtain ⟨i, rfl, q⟩ := h
    refine ⟨_, pss_one (ps_ret (pe_and
      (pe_callB call_isi (by rfl) m1 (by decide +kernel) (pa_cons (pv 0) (pa_cons (pe_bltn (v := .ty "int") (by rfl) m2 (by decide +kernel) rfl) pa_nil)))
      (pe_one (pe_not (pe_callB call_isi (by rfl) m1 (by decide +kernel) (pa_cons (pv 0) (pa_cons (pe_bltn (v := .ty "bool") (by rfl) m3 (by decide +kernel) rfl) pa_nil))))))), ?_⟩
    refine ⟨.int i, rfl, .int i, .ty "int", _, _, true, rfl, .ty _, .base (.int i), kit_ty (by decide +kernel), true, rfl, iteT ?_⟩
    exact ⟨.int i, rfl, .int i, .ty "bool", _, _, false, rfl, .ty _, .base (.int i), kit_ty (by decide +kernel), false, rfl, q⟩
def spIsBetween : Sp := fun vs H Q _ => ∃ i l m : Int, vs = [.int i, .int l, .int m] ∧ Q (.bl (decide (l ≤ i) && decide (i ≤ m))) H
theorem ok_is_between {f f1 : Addr} {fd fd1 : FuncData} {k : Nat} (F : Fun K "is_between" "is_between" s_is_between f fd)
    (G1 : FnOk P w K mg base CX0 k f1 fd1 ["thing"] spIsInt) (kp1 : PySem.W.keepIn K (.ref f1) = true) (b1 : Binds K fd1 ["thing"] []) (g1 : mg "is_int" = some (.ref f1)) :
    FnOk P w K mg base CX0 (k + 1) f fd ["thing", "least", "most"] spIsBetween := by
  refine F.ok sc_is_between (fun vs H Q E h => ?_) (fun cdv A outer s H vs Q E hr h => ?_)
  · obtain ⟨i, l, m, rfl, _⟩ := h; rfl
  · obtain ⟨i, l, m, rfl, q⟩ := h
    refine ⟨_, pss_one (ps_ret (pe_and (pe_call G1 hr (by rfl) g1 kp1 b1 .nil pass0 (pa_cons (pv 0) pa_nil)) (pe_one (pe_chain op_le op_le (pv 1) (pv 0) (pv 2))))), ?_⟩
    refine ⟨.int i, rfl, i, rfl, true, rfl, iteT ?_⟩
    refine ⟨.int l, rfl, .int i, rfl, l, i, rfl, rfl, decide (l ≤ i), rfl, ?_⟩
    by_cases h1 : l ≤ i
    · rw [decide_eq_true h1] at q ⊢
      exact iteT ⟨.int m, rfl, i, m, rfl, rfl, q⟩
    · rw [decide_eq_false h1] at q ⊢
      exact iteF q
/-! ### is_int, is_between: of any data -/
/-! ### the script's cells, the pen -/
def spCell (K : PySem.W.Frag) : Sp := fun vs H Q _ => ∃ (a : Addr) (ns : List Int) (k : Nat), vs = [.ref a, .int k] ∧ SqL K H a (ns.map V.int) ∧ ∀ r : Int, Q (.int r) H
theorem ok_l_cell {f : Addr} {fd : FuncData} {k : Nat} (F : Fun K "_law_cell" "_law_cell" s_l_cell f fd) (m1 : mg "len" = none) :
    FnOk P w K mg base CX0 (k + 1) f fd ["_law_script", "_law_k"] (spCell K) := by
  refine F.ok sc_l_cell (fun vs H Q E h => ?_) (fun cdv A outer s H vs Q E hr h => ?_)
  · obtain ⟨a, ns, j, rfl, _⟩ := h; rfl
  · obtain ⟨a, ns, j, rfl, hS, q⟩ := h
    refine ⟨_, pss_one (ps_ret (pe_ifExp (pt_cmpR op_lt (pv 1) (pe_callB call_len_seq (by rfl) m1 PySem.boot_len (pa_cons (pv 0) pa_nil)) (nomark _))
      (pe_ix ix_list (pv 0) (pv 1) (fun _ _ => rfl)) pe_int)), ?_⟩
    refine ⟨.int j, rfl, .ref a, rfl, a, ns.map V.int, rfl, .inl hS, _, _, rfl, rfl, _, rfl, ite2 (fun e => ?_) (fun e => ?_)⟩
    · have e1 : (j : Int) < ((ns.map V.int).length : Nat) := of_decide_eq_true e
      have e2 : j < ns.length := by rw [List.length_map] at e1; omega
      refine ⟨.ref a, rfl, .int j, rfl, a, ns.map V.int, (j : Int), .int ns[j], rfl, rfl, hS, atI_nat ?_, q _⟩
      rw [List.getElem?_map, List.getElem?_eq_getElem e2]; rfl
    · exact q 0
def spPen : Sp := fun vs H Q _ => ∃ c : Int, vs = [.int c] ∧ ∀ H' p, H p = none → Same H H' → PenAt H' p → Q (.ref p) H'
theorem ok_l_pen {f : Addr} {fd : FuncData} {k : Nat} (F : Fun K "_law_pen" "_law_pen" s_l_pen f fd) (m1 : mg "max" = none) :
    FnOk P w K mg base CX0 (k + 1) f fd ["_law_cell_here"] spPen := by
  refine F.ok sc_l_pen (fun vs H Q E h => ?_) (fun cdv A outer s H vs Q E hr h => ?_)
  · obtain ⟨c, rfl, _⟩ := h; rfl
  · obtain ⟨c, rfl, q⟩ := h
    refine ⟨_, pss_one (ps_ret (pe_lst (pa_cons (pe_callB (call_max2 rfl) (by rfl) m1 (by decide +kernel) (pa_cons pe_int (pa_cons (pe_op op_sub (pv 0) (pe_op op_pow pe_int pe_int)) pa_nil)))
      (pa_cons (pe_op op_add (pe_op op_mod (pv 0) pe_int) pe_int) (pa_cons pe_int pa_nil))))), ?_⟩
    refine ⟨.int c, rfl, 10, 18, rfl, rfl, (by show (0 : Int) ≤ 18 ∧ (18 : Int) ≤ 1000000 ∧ _; decide), c, _, rfl, rfl, _, _, rfl, ?_⟩
    refine ⟨.int c, rfl, c, 2147483629, rfl, rfl, (by show (0 : Int) < 2147483629; decide), _, _, rfl, rfl, ?_⟩
    refine ⟨by show 3 ≤ sizeLine; decide, fun p hp => q _ p hp (same_new hp) ⟨_, _, _, upd_same, ?_⟩⟩
    have h1 := Int.emod_nonneg c (show (2147483629 : Int) ≠ 0 by decide)
    have h2 := Int.emod_lt_of_pos c (show (0 : Int) < 2147483629 by decide)
    constructor <;> omega
/-! ### a draw -/
def spDraw : Sp := fun vs H Q _ => ∃ (p : Addr) (m : Int), vs = [.ref p, .int m] ∧ PenAt H p ∧ 0 < m ∧ m < 1000000 ∧
  ∀ H' (r : Int), 0 ≤ r → r < m → PenAt H' p → But p H H' → Q (.int r) H'
theorem ok_l_draw {f : Addr} {fd : FuncData} {k : Nat} (F : Fun K "_law_draw" "_law_draw" s_l_draw f fd) :
    FnOk P w K mg base CX0 (k + 1) f fd ["_law_pen_here", "_law_many"] spDraw := by
  refine F.ok sc_l_draw (fun vs H Q E h => ?_) (fun cdv A outer s H vs Q E hr h => ?_)
  · obtain ⟨p, m, rfl, _⟩ := h; rfl
  · obtain ⟨p, m, rfl, ⟨a, b, c, hp, hb0, hb1⟩, hm0, hm1, q⟩ := h
    refine ⟨_, pss_cons (ps_if (pt_cmpR op_gt (pe_ix ix_list (pv 0) pe_int (fun _ _ => rfl)) pe_int (nomark _))
        (pss_cons (ps_set (i := 2) sc_l_draw.nd rfl (.inl rfl) (pe_op op_mod (pe_ix ix_list (pv 0) pe_int (fun _ _ => rfl)) (pv 1)))
        (pss_cons (ps_asg (pe_op op_fdiv (pe_ix ix_list (pv 0) pe_int (fun _ _ => rfl)) (pv 1)) (pg_sub (pv 0) pe_int set_list))
        (pss_one (ps_ret (pv 2))))) pss_nil)
      (pss_cons (ps_asg (pe_op op_add (pe_ix ix_list (pv 0) pe_int (fun _ _ => rfl)) pe_int) (pg_sub (pv 0) pe_int set_list))
      (pss_cons (ps_asg (pe_op op_mod (pe_op op_add (pe_op op_add (pe_op op_mul (pe_ix ix_list (pv 0) pe_int (fun _ _ => rfl)) pe_int)
            (pe_op op_mul pe_int (pe_ix ix_list (pv 0) pe_int (fun _ _ => rfl)))) pe_int) pe_int) (pg_sub (pv 0) pe_int set_list))
      (pss_cons (ps_set (i := 3) sc_l_draw.nd rfl (.inl rfl) (pe_op op_mod (pe_op op_add (pe_op op_add (pe_op op_mul (pe_ix ix_list (pv 0) pe_int (fun _ _ => rfl)) (pe_ix ix_list (pv 0) pe_int (fun _ _ => rfl)))
            (pe_op op_mul pe_int (pe_ix ix_list (pv 0) pe_int (fun _ _ => rfl)))) pe_int) pe_int))
      (pss_cons (ps_set (i := 3) sc_l_draw.nd rfl (.inl rfl) (pe_op op_mod (pe_op op_add (pe_op op_mul (pv 3) (pv 3)) (pe_op op_mul pe_int (pv 3))) pe_int))
      (pss_one (ps_ret (pe_op op_mod (pe_op op_fdiv (pv 3) pe_int) (pv 1)))))))), ?_⟩
    refine ⟨.ref p, rfl, p, _, 0, .int a, rfl, rfl, .of hp, atI0, a, 0, rfl, rfl, _, rfl, ite2 (fun e => ?_) (fun e => ?_)⟩
    · have ha : 0 < a := of_decide_eq_true e
      refine ⟨.ref p, rfl, p, _, 0, .int a, rfl, rfl, .of hp, atI0, .int m, rfl, a, m, rfl, rfl, hm0, ?_⟩
      refine ⟨.ref p, rfl, p, _, 0, .int a, rfl, rfl, .of hp, atI0, .int m, rfl, a, m, rfl, rfl, ⟨hm0, (by omega)⟩, ?_⟩
      refine ⟨.ref p, rfl, p, _, 0, 0, rfl, rfl, hp, rfl, ?_⟩
      refine ⟨.int (a % m), rfl, q _ _ (Int.emod_nonneg a (by omega)) (Int.emod_lt_of_pos a hm0) ⟨a / m, b, c, upd_same, hb0, hb1⟩ But.upd⟩
    · refine ⟨.ref p, rfl, p, _, 2, .int c, rfl, rfl, .of hp, atI2, c, 1, rfl, rfl, ?_⟩
      refine ⟨.ref p, rfl, p, _, 2, 2, rfl, rfl, hp, rfl, ?_⟩
      have hp1 : (upd H p (.lst [.int a, .int b, .int (c + 1)])) p = some (.lst [.int a, .int b, .int (c + 1)]) := upd_same
      refine ⟨.ref p, rfl, p, _, 1, .int b, rfl, rfl, .of hp1, atI1, b, 48271, rfl, rfl, .inl ⟨by omega, by omega⟩, ?_⟩
      refine ⟨.ref p, rfl, p, _, 2, .int (c + 1), rfl, rfl, .of hp1, atI2, 1009, c + 1, rfl, rfl, .inl (by decide), ?_⟩
      refine ⟨_, _, rfl, rfl, _, _, rfl, rfl, _, 2147483647, rfl, rfl, (by show (0 : Int) < 2147483647; decide), ?_⟩
      refine ⟨.ref p, rfl, p, _, 1, 1, rfl, rfl, hp1, rfl, ?_⟩
      dsimp only [List.set]
      generalize hb' : (b * 48271 + 1009 * (c + 1) + 7) % 2147483647 = b'
      have g1 : 0 ≤ b' := by rw [← hb']; exact Int.emod_nonneg _ (by decide)
      have g2 : b' < 2147483647 := by rw [← hb']; exact Int.emod_lt_of_pos _ (by decide)
      have hp2 : (upd (upd H p (.lst [.int a, .int b, .int (c + 1)])) p (.lst [.int a, .int b', .int (c + 1)])) p = some (.lst [.int a, .int b', .int (c + 1)]) := upd_same
      refine ⟨.ref p, rfl, p, _, 1, .int b', rfl, rfl, .of hp2, atI1, .ref p, rfl, p, _, 1, .int b', rfl, rfl, .of hp2, atI1, b', b', rfl, rfl, .inl ⟨by omega, by omega⟩, ?_⟩
      refine ⟨.ref p, rfl, p, _, 1, .int b', rfl, rfl, .of hp2, atI1, 69621, b', rfl, rfl, .inl (by decide), ?_⟩
      refine ⟨_, _, rfl, rfl, _, _, rfl, rfl, _, 2147483629, rfl, rfl, (by show (0 : Int) < 2147483629; decide), ?_⟩
      dsimp only
      generalize ht : (b' * b' + 69621 * b' + 11) % 2147483629 = t
      have t1 : 0 ≤ t := by rw [← ht]; exact Int.emod_nonneg _ (by decide)
      have t2 : t < 2147483629 := by rw [← ht]; exact Int.emod_lt_of_pos _ (by decide)
      refine ⟨.int t, rfl, .int t, rfl, t, t, rfl, rfl, .inl ⟨by omega, by omega⟩, .int t, rfl, 40014, t, rfl, rfl, .inl (by decide), _, _, rfl, rfl, _, 2147483587, rfl, rfl, (by show (0 : Int) < 2147483587; decide), ?_⟩
      refine ⟨_, rfl, _, 16, rfl, rfl, ⟨by decide, by decide⟩, .int m, rfl, _, m, rfl, rfl, hm0, ?_⟩
      refine q _ _ (Int.emod_nonneg _ (by omega)) (Int.emod_lt_of_pos _ hm0) ⟨a, b', c + 1, upd_same, by omega, by omega⟩ ?_
      exact But.upd.trans But.upd
end
end Sg
set_option Elab.async false
set_option linter.all false
set_option maxRecDepth 100000
set_option maxHeartbeats 4000000
namespace Sg
open PySem PySem.Spec PyProof.Rows L2
section
variable {P : Program} {w : World} {K : PySem.W.Frag} {mg : Str → Option Value} {base : Heap}
/-! ### is_work, of a work -/
def spIsWork (K : PySem.W.Frag) : Sp := fun vs H Q _ => ∃ (a : Addr) (ns : List Int), vs = [.ref a] ∧ SqT K H a (ns.map V.int) ∧ IsWork ns ∧ ∀ H', Same H H' → Q (.bl true) H'
theorem ok_is_work {f f1 : Addr} {fd fd1 : FuncData} {k : Nat} (F : Fun K "is_work" "is_work" s_is_work f fd) (N : Nums mg)
    (G1 : FnOk P w K mg base CX0 k f1 fd1 ["thing", "least", "most"] spIsBetween) (kp1 : PySem.W.keepIn K (.ref f1) = true) (b1 : Binds K fd1 ["thing", "least", "most"] []) (g1 : mg "is_between" = some (.ref f1))
    (m1 : mg "isinstance" = none) (m2 : mg "tuple" = none) (m3 : mg "len" = none) (m4 : mg "all" = none) :
    FnOk P w K mg base CX0 (k + 1) f fd ["thing"] (spIsWork K) := by
  obtain ⟨t1, n1⟩ := N.nowhere
  obtain ⟨t2, n2⟩ := N.stations
  obtain ⟨t3, n3⟩ := N.most
  refine F.ok sc_is_work (fun vs H Q E h => ?_) (fun cdv A outer s H vs Q E hr h => ?_)
  · obtain ⟨a, ns, rfl, _⟩ := h; rfl
  · obtain ⟨a, ns, rfl, hS, hw, q⟩ := h
    refine ⟨_, pss_cons (ps_if (PW.pt (pw_or (pt_not (pt_val (pe_callB call_isi (by rfl) m1 (by decide +kernel) (pa_cons (pv 0) (pa_cons (pe_bltn (v := .ty "tuple") (by rfl) m2 (by decide +kernel) rfl) pa_nil)))))
          (pw_or1 (pt_not (pt_chain op_le op_le pe_int (pe_callB call_len_seq (by rfl) m3 PySem.boot_len (pa_cons (pv 0) pa_nil)) (pe_glob (v := .int 60) (by rfl) n3 ⟨_, rfl⟩))))))
        (pss_one (ps_ret pe_bl)) pss_nil)
      (pss_cons (ps_if (pt_not (pt_val (pe_callB (cr_all rfl) (by rfl) m4 (by decide +kernel) (pa_cons
          (pe_lc (own := [("item", 1)]) (g := gName 1) (tt := tYes) rfl sc_is_work.nd (pi_tup (pv 0)) (blkOk_by (N := ["thing", "item"]) (sc := defScope s_is_work) (by decide +kernel))
            (fun _ _ _ _ _ => pg_name (i := 1) sc_is_work.nd rfl (Or.inl rfl)) (fun _ _ _ _ _ => pts_nil)
            (fun _ _ _ _ _ => pe_call G1 hr (by rfl) g1 kp1 b1 .nil pass0 (pa_cons (pv 1) (pa_cons (pe_glob (v := .int (-1)) (by rfl) n1 ⟨_, rfl⟩) (pa_cons (pe_op op_sub (pe_glob (v := .int 10) (by rfl) n2 ⟨_, rfl⟩) pe_int) pa_nil))))) pa_nil))))
        (pss_one (ps_ret pe_bl)) pss_nil)
      (pss_one (ps_ret (pe_and (pe_cmpR op_ne (pe_ix ix_tup (pv 0) pe_int (fun _ _ => rfl)) (pe_glob (v := .int (-1)) (by rfl) n1 ⟨_, rfl⟩) (nomark _))
        (pe_one (pe_cmpR op_ne (pe_ix ix_tup (pv 0) (pe_un un_neg pe_int) (fun _ _ => rfl)) (pe_glob (v := .int (-1)) (by rfl) n1 ⟨_, rfl⟩) (nomark _))))))), ?_⟩
    have l1 : ((ns.map V.int).length : Int) = ns.length := by rw [List.length_map]
    refine ⟨.ref a, rfl, .ref a, .ty "tuple", _, _, true, rfl, .ty _, tyT hS, kit_ty (by decide +kernel), true, rfl, iteF ?_⟩
    refine ⟨.ref a, rfl, a, ns.map V.int, rfl, .inr hS, 1, _, rfl, rfl, _, rfl, ?_⟩
    have c1 : decide ((1 : Int) ≤ ((ns.map V.int).length : Nat)) = true := decide_eq_true (by rw [List.length_map]; have := hw.pos; omega)
    rw [c1]
    refine iteT ⟨_, 60, rfl, rfl, _, rfl, ?_⟩
    have c2 : decide ((((ns.map V.int).length : Nat) : Int) ≤ 60) = true := decide_eq_true (by rw [List.length_map]; have := hw.most; omega)
    rw [c2]
    refine iteF ?_
    refine ⟨.ref a, rfl, a, rfl, ⟨_, hS⟩, fun D hD => ?_⟩
    refine lc_tup (xs := ns.map V.int) (fun i H' => Same H H' ∧ H' D = some (.lst ((((ns.take i).map inR)).map V.bl))) ⟨same_new hD, upd_same⟩ (fun i H' _ h => Same.tup h.1 hS) (fun i x H' hx h => ?_) (fun H' h => ?_)
    · rw [List.getElem?_map] at hx
      obtain ⟨z, hz, rfl⟩ := Option.map_eq_some_iff.mp hx
      have hl : i < ns.length := (List.getElem?_eq_some_iff.mp hz).1
      refine ⟨rfl, .int z, rfl, 10, 1, rfl, rfl, z, -1, _, rfl, ?_⟩
      refine ⟨_, h.2, ?_, fun b o e => ?_, ?_⟩
      · rw [List.length_map, List.length_map, List.length_take]
        have := hw.most
        exact small1000 (by omega)
      · rw [upd_ne (ne_of_none e hD)]
        exact h.1 _ _ e
      · rw [upd_same, List.take_add_one, hz, List.map_append, List.map_append]
        rfl
    · have hall : (((ns.take ns.length).map inR)).all id = true := by
        rw [List.take_length, List.all_map, List.all_eq_true]
        intro x hx
        have := hw.items x hx
        simp [inR, this.1, this.2]
      have h2 := h.2
      rw [List.length_map] at h2
      refine ⟨D, _, rfl, .of h2, true, congrArg V.bl hall, iteF ?_⟩
      have hS' : SqT K H' a (ns.map V.int) := Same.tup h.1 hS
      obtain ⟨x, hx⟩ : ∃ x, ns[0]? = some x := ⟨ns[0]'(hw.pos), List.getElem?_eq_getElem _⟩
      have hpos := hw.pos
      obtain ⟨y, hy⟩ : ∃ y, ns[ns.length - 1]? = some y := ⟨ns[ns.length - 1]'(by omega), List.getElem?_eq_getElem _⟩
      have gx : (ns.map V.int)[0]? = some (.int x) := by rw [List.getElem?_map, hx]; rfl
      have gy : atI (ns.map V.int) (-1) = some (.int y) := by
        have hne : ns ≠ [] := fun z => by rw [z] at hpos; exact absurd hpos (by decide)
        have e1 : ns = ns.dropLast ++ [y] := by
          have e2 : ns.getLast hne = y := by
            have := List.getLast_eq_getElem hne
            rw [this]
            exact (List.getElem?_eq_some_iff.mp hy).2
          rw [← e2, List.dropLast_concat_getLast]
        rw [e1, List.map_append]
        exact atI_last _ _
      refine ⟨.ref a, rfl, a, _, 0, .int x, rfl, rfl, hS', atI_nat (j := 0) gx, rfl, ?_⟩
      have d1 : decide (V.int x = V.int (-1)) = false := decide_eq_false fun z => hw.head x hx (V.int.inj z)
      rw [d1]
      refine ⟨true, rfl, iteT ?_⟩
      refine ⟨.ref a, rfl, 1, rfl, a, _, -1, .int y, rfl, rfl, hS', gy, rfl, ?_⟩
      have d2 : decide (V.int y = V.int (-1)) = false := decide_eq_false fun z => hw.last y hy (V.int.inj z)
      rw [d2]
      exact q H' h.1
def spReq (K : PySem.W.Frag) : Sp := fun vs H Q _ => ∃ (a : Addr) (ns : List Int), vs = [.ref a] ∧ SqT K H a (ns.map V.int) ∧ IsWork ns ∧ ∀ H', Same H H' → Q .non H'
theorem ok_require_work {f f1 : Addr} {fd fd1 : FuncData} {k : Nat} (F : Fun K "require_work" "require_work" s_require_work f fd)
    (G1 : FnOk P w K mg base CX0 k f1 fd1 ["thing"] (spIsWork K)) (kp1 : PySem.W.keepIn K (.ref f1) = true) (b1 : Binds K fd1 ["thing"] []) (g1 : mg "is_work" = some (.ref f1)) :
    FnOk P w K mg base CX0 (k + 1) f fd ["thing"] (spReq K) := by
  refine F.ok sc_require_work (fun vs H Q E h => ?_) (fun cdv A outer s H vs Q E hr h => ?_)
  · obtain ⟨a, ns, rfl, _⟩ := h; rfl
  · obtain ⟨a, ns, rfl, hS, hw, q⟩ := h
    refine ⟨_, pss_one (ps_if (pt_not (pt_val (pe_call G1 hr (by rfl) g1 kp1 b1 .nil pass0 (pa_cons (pv 0) pa_nil)))) (pss_one ps_never) pss_nil), ?_⟩
    exact ⟨.ref a, rfl, a, ns, rfl, hS, hw, fun H' sm => ⟨true, rfl, iteF (q H' sm)⟩⟩
/-! ### _clashes_behind -/
def spClash (K : PySem.W.Frag) : Sp := fun vs H Q _ => ∃ (a b : Addr) (one other : List Int) (d : Nat), vs = [.ref a, .ref b, .int d] ∧ SqT K H a (one.map V.int) ∧ SqT K H b (other.map V.int) ∧ one.length ≤ 60 ∧ 1 ≤ d ∧ d < one.length ∧
  ∀ H', Same H H' → Q (.bl (clashB one other d)) H'
theorem ok_clashes_behind {f : Addr} {fd : FuncData} {k : Nat} (F : Fun K "_clashes_behind" "_clashes_behind" s_clashes_behind f fd) (N : Nums mg) (m1 : mg "any" = none) (m2 : mg "zip" = none) :
    FnOk P w K mg base CX0 (k + 1) f fd ["one", "other", "distance"] (spClash K) := by
  obtain ⟨t1, n1⟩ := N.nowhere
  refine F.ok sc_clashes_behind (fun vs H Q E h => ?_) (fun cdv A outer s H vs Q E hr h => ?_)
  · obtain ⟨a, b, o1, o2, d, rfl, _⟩ := h; rfl
  · obtain ⟨a, b, one, other, d, rfl, hA, hB, hm, hd1, hd2, q⟩ := h
    refine ⟨_, pss_one (ps_ret (pe_callB (cr_any rfl) (by rfl) m1 (by decide +kernel) (pa_cons
      (pe_lc (own := [("here", 3), ("there", 4)]) (g := gTup K 2 (gCons (gName 3) (gCons (gName 4) gNil))) (tt := tYes) rfl sc_clashes_behind.nd (RZ.pi_zipA (by rfl) m2 (pa_cons (pe_slice sl_tup (pv 0) (po_some (pv 2)) po_none) (pa_cons (pv 1) pa_nil)))
        (blkOk_by (N := ["one", "other", "distance", "here", "there"]) (sc := defScope s_clashes_behind) (by decide +kernel))
        (fun _ _ _ _ _ => pg_tup rfl (pgs_cons (pg_name (i := 3) sc_clashes_behind.nd rfl (Or.inl rfl)) (pgs_cons (pg_name (i := 4) sc_clashes_behind.nd rfl (Or.inl rfl)) pgs_nil)))
        (fun _ _ _ _ _ => pts_nil)
        (fun _ _ _ _ _ => pe_and (pe_cmpR op_eq (pv 3) (pv 4) (nomark _)) (pe_one (pe_cmpR op_ne (pv 3) (pe_glob (v := .int (-1)) (by rfl) n1 ⟨_, rfl⟩) (nomark _))))) pa_nil))), ?_⟩
    have hcut : cutV (one.map V.int) (some (d : Int)) none = (one.drop d).map V.int := by rw [cut_from, List.map_drop]
    refine ⟨.ref a, rfl, .int d, rfl, d, rfl, a, _, rfl, hA, ?_, fun c nc => ?_⟩
    · rintro ⟨z, _⟩
      rw [HT.sIx_nat, List.length_map] at z
      omega
    rw [hcut]
    have s1 : Same H (upd H c (.tup ((one.drop d).map V.int))) := same_new nc
    refine ⟨.ref b, rfl, c, b, _, _, rfl, .inr ⟨.of upd_same, Same.tup s1 hB, fun D hD => ?_⟩⟩
    have s2 : Same (upd H c (.tup ((one.drop d).map V.int))) (upd (upd H c (.tup ((one.drop d).map V.int))) D (.lst [])) := same_new hD
    have hc0 : (upd H c (.tup ((one.drop d).map V.int))) c = some (.tup ((one.drop d).map V.int)) := upd_same
    refine lc_it (walk_zipT (xs := (one.drop d).map V.int) (ys := other.map V.int) (n := min (one.drop d).length other.length) (by rw [List.length_map, List.length_map]))
      (fun i H' => Same (upd H c (.tup ((one.drop d).map V.int))) H' ∧ H' D = some (.lst ((hitsTo one other d i).map V.bl))) ⟨s2, upd_same⟩
      (fun i H' _ h => ⟨.of (h.1 _ _ hc0), Same.tup (s1.trans h.1) hB⟩) (fun i x H' H'' hi h hY => ?_) (fun H' h => ?_)
    · obtain ⟨T, x1, x2, rfl, nT, rfl, f1, f2⟩ := hY
      dsimp only at f1 f2
      rw [List.getElem?_map] at f1 f2
      obtain ⟨z1, hz1, rfl⟩ := Option.map_eq_some_iff.mp f1
      obtain ⟨z2, hz2, rfl⟩ := Option.map_eq_some_iff.mp f2
      have nTD : D ≠ T := ne_of_none h.2 nT
      refine ⟨T, _, rfl, .of upd_same, rfl, _, _, rfl, _, _, rfl, rfl, rfl, ?_⟩
      have fin : ∀ bb : Bool, bb = (z1 == z2 && z1 != -1) → ∃ acc, (upd H' T (.tup [V.int z1, V.int z2])) D = some (.lst acc) ∧ acc.length < sizeLine ∧
          (Same (upd H c (.tup ((one.drop d).map V.int))) (upd (upd H' T (.tup [V.int z1, V.int z2])) D (.lst (acc ++ [V.bl bb]))) ∧ (upd (upd H' T (.tup [V.int z1, V.int z2])) D (.lst (acc ++ [V.bl bb]))) D = some (.lst ((hitsTo one other d (i + 1)).map V.bl))) := by
        rintro bb rfl
        refine ⟨_, by rw [upd_ne nTD]; exact h.2, ?_, fun y o e => ?_, ?_⟩
        · rw [List.length_map]
          have := hits_len one other d i
          exact small1000 (by rw [List.length_drop] at hi; omega)
        · rw [upd_ne (ne_of_none e hD)]
          exact same_new nT _ _ (h.1 _ _ e)
        · rw [upd_same, hits_succ hz1 hz2, List.map_append]
          rfl
      refine ⟨.int z1, rfl, .int z2, rfl, rfl, ?_⟩
      by_cases hz : z1 = z2
      · subst hz
        rw [decide_eq_true (rfl : V.int z1 = V.int z1)]
        refine ⟨true, rfl, iteT ⟨.int z1, rfl, rfl, ?_⟩⟩
        refine fin _ ?_
        by_cases hn : z1 = -1
        · subst hn; rfl
        · rw [decide_eq_false fun z => hn (V.int.inj z)]
          simp [hn]
      · rw [decide_eq_false fun z => hz (V.int.inj z)]
        refine ⟨false, rfl, iteF (fin _ ?_)⟩
        simp [hz]
    · refine ⟨D, _, rfl, .of h.2, ?_⟩
      rw [hits_any]
      exact q H' (s1.trans h.1)
/-! ### bars -/
def spBars (K : PySem.W.Frag) : Sp := fun vs H Q _ => ∃ (a b : Addr) (one other : List Int), vs = [.ref a, .ref b] ∧ SqT K H a (one.map V.int) ∧ SqT K H b (other.map V.int) ∧ IsWork one ∧ IsWork other ∧
  ∀ H' p, Same H H' → H p = none → H' p = some (.tup (nV (barsN one other))) → Q (.ref p) H'
theorem ok_bars {f f1 f2 : Addr} {fd fd1 fd2 : FuncData} {k : Nat} (F : Fun K "bars" "bars" s_bars f fd)
    (G1 : FnOk P w K mg base CX0 k f1 fd1 ["thing"] (spReq K)) (kp1 : PySem.W.keepIn K (.ref f1) = true) (b1 : Binds K fd1 ["thing"] []) (g1 : mg "require_work" = some (.ref f1))
    (G2 : FnOk P w K mg base CX0 k f2 fd2 ["one", "other", "distance"] (spClash K)) (kp2 : PySem.W.keepIn K (.ref f2) = true) (b2 : Binds K fd2 ["one", "other", "distance"] []) (g2 : mg "_clashes_behind" = some (.ref f2))
    (m1 : mg "tuple" = none) (m2 : mg "range" = none) (m3 : mg "len" = none) :
    FnOk P w K mg base CX0 (k + 1) f fd ["one", "other"] (spBars K) := by
  refine F.ok sc_bars (fun vs H Q E h => ?_) (fun cdv A outer s H vs Q E hr h => ?_)
  · obtain ⟨a, b, o1, o2, rfl, _⟩ := h; rfl
  · obtain ⟨a, b, one, other, rfl, hA, hB, w1, w2, q⟩ := h
    refine ⟨_, pss_cons (ps_expr (pe_call G1 hr (by rfl) g1 kp1 b1 .nil pass0 (pa_cons (pv 0) pa_nil))) (pss_cons (ps_expr (pe_call G1 hr (by rfl) g1 kp1 b1 .nil pass0 (pa_cons (pv 1) pa_nil)))
      (pss_one (ps_ret (pe_callTy call_tuple_of (by rfl) m1 (by decide +kernel) (pa_cons
        (pe_lc (own := [("distance", 2)]) (g := gName 2) rfl sc_bars.nd (pi_range2 (by rfl) m2 (pa_cons pe_int (pa_cons (pe_callB call_len_seq (by rfl) m3 PySem.boot_len (pa_cons (pv 0) pa_nil)) pa_nil)))
          (blkOk_by (N := ["one", "other", "distance"]) (sc := defScope s_bars) (by decide +kernel))
          (fun _ _ _ _ _ => pg_name (i := 2) sc_bars.nd rfl (Or.inl rfl))
          (fun _ _ _ _ _ => pts_one (pt_val (pe_call G2 hr (by rfl) g2 kp2 b2 .nil pass0 (pa_cons (pv 0) (pa_cons (pv 1) (pa_cons (pv 2) pa_nil))))))
          (fun _ _ _ _ _ => pv 2)) pa_nil))))), ?_⟩
    refine ⟨.ref a, rfl, a, one, rfl, hA, w1, fun H1 e1 => ?_⟩
    refine ⟨.ref b, rfl, b, other, rfl, Same.tup e1 hB, w2, fun H2 e2 => ?_⟩
    have e12 : Same H H2 := e1.trans e2
    have hA2 := Same.tup e12 hA
    have hB2 := Same.tup e12 hB
    refine ⟨.ref a, rfl, a, one.map V.int, rfl, .inr hA2, 1, _, rfl, ?_, fun D hD => ?_⟩
    · rw [List.length_map]
      have := w1.most
      omega
    have en : (((one.map V.int).length : Int) - 1).toNat = one.length - 1 := by rw [List.length_map]; omega
    rw [en]
    refine lc_range (lo := 1) (n := one.length - 1) (fun i H' => Same H2 H' ∧ H' D = some (.lst (nV (barsTo one other i)))) ⟨same_new hD, upd_same⟩ (fun i H' hi h => ?_) (fun H' h => ?_)
    · refine ⟨rfl, ?_⟩
      have ed : ((1 : Int) + (i : Int)) = ((1 + i : Nat) : Int) := by omega
      refine ⟨.ref a, rfl, .ref b, rfl, .int (1 + i), rfl, a, b, one, other, 1 + i, by rw [ed]; rfl, Same.tup h.1 hA2, Same.tup h.1 hB2, w1.most, by omega, by omega, fun H'' e3 => ?_⟩
      refine ⟨_, rfl, ?_⟩
      have hD3 := e3 _ _ h.2
      cases hc : clashB one other (1 + i) with
      | true =>
        refine iteT ⟨_, rfl, _, hD3, ?_, fun y o e => ?_, ?_⟩
        · rw [List.length_map]
          have := barsTo_len one other i
          have := w1.most
          exact small1000 (by omega)
        · rw [upd_ne (ne_of_none e hD)]
          exact e3 _ _ (h.1 _ _ e)
        · rw [upd_same, barsTo_yes hc]
      | false =>
        refine iteF ⟨h.1.trans e3, ?_⟩
        rw [barsTo_no hc]
        exact hD3
    · refine ⟨D, _, rfl, .inl ⟨.of h.2, fun l hl => ?_⟩⟩
      have e3 : Same H H' := e12.trans h.1
      exact q _ l (e3.trans (same_new hl)) (Same.free e3 hl) upd_same
end
end Sg
set_option Elab.async false
set_option linter.all false
set_option maxRecDepth 100000
set_option maxHeartbeats 4000000
namespace Sg
open PySem PySem.Spec PyProof.Rows L2
section
variable {P : Program} {w : World} {K : PySem.W.Frag} {mg : Str → Option Value} {base : Heap}
/-! ### len -/
def spLen (K : PySem.W.Frag) (C : Addr) : Sp := fun vs H Q _ => ∃ (a : Addr) (ws : List (List Int)), vs = [.ref a] ∧ LineAt K C H a ws ∧ Q (.int (ws.length : Nat)) H
theorem ok_len {f C : Addr} {fd : FuncData} {k : Nat} (F : Fun K "__len__" "Line.__len__" s_Line_len f fd) (T : LC K mg C) (m1 : mg "len" = none) :
    FnOk P w K mg base CX0 (k + 1) f fd ["self"] (spLen K C) := by
  refine F.ok sc_Line_len (fun vs H Q E h => ?_) (fun cdv A outer s H vs Q E hr h => ?_)
  · obtain ⟨a, ws, rfl, _⟩ := h; rfl
  · obtain ⟨a, ws, rfl, ⟨dx, t, b, r, h1, h2, h3, h4, h5⟩, q⟩ := h
    refine ⟨_, pss_one (ps_ret (pe_callB call_len_seq (by rfl) m1 PySem.boot_len (pa_cons (pe_fld (pv 0) rfl) pa_nil))), ?_⟩
    obtain ⟨t', xs, e, hS, hT⟩ := h2.toTup
    cases e
    refine ⟨.ref a, rfl, a, C, dx, _, _, rfl, h1, T.cl, T.nW, lf_works _ _ _, t, xs, rfl, .inr hS, ?_⟩
    have e := hT.len
    rw [List.length_map] at e
    rw [e]
    exact q
/-! ### is_kind -/
def spIsKind (K : PySem.W.Frag) (C : Addr) : Sp := fun vs H Q _ => ∃ (a : Addr) (ws : List (List Int)) (i : Int), vs = [.ref a, .int i] ∧ LineAt K C H a ws ∧ Q (.bl (decide (0 ≤ i) && decide (i ≤ (ws.length : Nat) - 1))) H
theorem ok_is_kind {f f1 f2 C : Addr} {fd fd1 fd2 : FuncData} {k : Nat} (F : Fun K "is_kind" "is_kind" s_is_kind f fd) (T : LC K mg C) (m1 : mg "len" = none)
    (G1 : FnOk P w K mg base CX0 k f1 fd1 ["thing", "least", "most"] spIsBetween) (kp1 : PySem.W.keepIn K (.ref f1) = true) (b1 : Binds K fd1 ["thing", "least", "most"] []) (g1 : mg "is_between" = some (.ref f1))
    (G2 : FnOk P w K mg base CX0 k f2 fd2 ["self"] (spLen K C)) (b2 : Binds K fd2 ["self"] []) (s2 : PySem.W.findIn K (.ref C) "__len__" = some (some (.ref f2))) (i2 : PySem.W.isFn K (.ref f2) = true) :
    FnOk P w K mg base CX0 (k + 2) f fd ["line", "thing"] (spIsKind K C) := by
  refine F.ok sc_is_kind (fun vs H Q E h => ?_) (fun cdv A outer s H vs Q E hr h => ?_)
  · obtain ⟨a, ws, i, rfl, _⟩ := h; rfl
  · obtain ⟨a, ws, i, rfl, hL, q⟩ := h
    refine ⟨_, pss_one (ps_ret (pe_call G1 (hr.mono (Nat.le_succ k)) (by rfl) g1 kp1 b1 .nil pass0 (pa_cons (pv 1) (pa_cons pe_int (pa_cons (pe_op op_sub (pe_callB (call_lenO G2 hr b2 s2 i2) (by rfl) m1 PySem.boot_len (pa_cons (pv 0) pa_nil)) pe_int) pa_nil))))), ?_⟩
    refine ⟨.int i, rfl, .ref a, rfl, a, rfl, hL.ins, a, ws, rfl, hL, ws.length, rfl, ?_, _, 1, rfl, rfl, i, 0, _, rfl, q⟩
    have := hL.good.few
    omega
def spReqKind (K : PySem.W.Frag) (C : Addr) : Sp := fun vs H Q _ => ∃ (a : Addr) (ws : List (List Int)) (i : Nat), vs = [.ref a, .int i] ∧ LineAt K C H a ws ∧ i < ws.length ∧ Q .non H
theorem ok_require_kind {f f1 C : Addr} {fd fd1 : FuncData} {k : Nat} (F : Fun K "require_kind" "require_kind" s_require_kind f fd)
    (G1 : FnOk P w K mg base CX0 k f1 fd1 ["line", "thing"] (spIsKind K C)) (kp1 : PySem.W.keepIn K (.ref f1) = true) (b1 : Binds K fd1 ["line", "thing"] []) (g1 : mg "is_kind" = some (.ref f1)) :
    FnOk P w K mg base CX0 (k + 1) f fd ["line", "thing"] (spReqKind K C) := by
  refine F.ok sc_require_kind (fun vs H Q E h => ?_) (fun cdv A outer s H vs Q E hr h => ?_)
  · obtain ⟨a, ws, i, rfl, _⟩ := h; rfl
  · obtain ⟨a, ws, i, rfl, hL, hi, q⟩ := h
    refine ⟨_, pss_one (ps_if (pt_not (pt_val (pe_call G1 hr (by rfl) g1 kp1 b1 .nil pass0 (pa_cons (pv 0) (pa_cons (pv 1) pa_nil))))) (pss_one ps_never) pss_nil), ?_⟩
    refine ⟨.ref a, rfl, .int i, rfl, a, ws, i, rfl, hL, ?_⟩
    rw [decide_eq_true (show (0 : Int) ≤ i by omega), decide_eq_true (show (i : Int) ≤ (ws.length : Nat) - 1 by omega)]
    exact ⟨true, rfl, iteF q⟩
/-! ### _bars_of_all -/
def spBarsAll (K : PySem.W.Frag) : Sp := fun vs H Q _ => ∃ (a : Addr) (ws : List (List Int)), vs = [.ref a] ∧ Tp K H (.ref a) (.tuple (tDs ws)) ∧ GoodL ws ∧
  ∀ H' p, Same H H' → Tp K H' (.ref p) (.tuple (barD ws)) → Q (.ref p) H'
theorem ok_bars_of_all {f f1 : Addr} {fd fd1 : FuncData} {k : Nat} (F : Fun K "_bars_of_all" "_bars_of_all" s_bars_of_all f fd) (m1 : mg "tuple" = none)
    (G1 : FnOk P w K mg base CX0 k f1 fd1 ["one", "other"] (spBars K)) (kp1 : PySem.W.keepIn K (.ref f1) = true) (b1 : Binds K fd1 ["one", "other"] []) (g1 : mg "bars" = some (.ref f1)) :
    FnOk P w K mg base CX0 (k + 1) f fd ["works"] (spBarsAll K) := by
  refine F.ok sc_bars_of_all (fun vs H Q E h => ?_) (fun cdv A outer s H vs Q E hr h => ?_)
  · obtain ⟨a, ws, rfl, _⟩ := h; rfl
  · obtain ⟨a, ws, rfl, hW, hg, q⟩ := h
    refine ⟨_, pss_one (ps_ret (pe_callTy call_tuple_of (by rfl) m1 (by decide +kernel) (pa_cons
      (pe_lc (own := [("one", 2)]) (g := gName 2) (tt := tYes) rfl sc_bars_of_all.nd (pi_tup (pv 0)) (blkOk_by (N := ["works", "other", "one"]) (sc := defScope s_bars_of_all) (by decide +kernel))
        (fun _ _ _ _ _ => pg_name (i := 2) sc_bars_of_all.nd rfl (Or.inr rfl)) (fun _ _ _ _ _ => pts_nil)
        (fun s' H' C' cl fp => pe_callTy (call_tuple_ofK (K := K) rfl) (by rfl) m1 (by decide +kernel) (pa_cons
          (pe_lc (own := [("other", 1)]) (g := gName 1) (tt := tYes) rfl sc_bars_of_all.nd (pi_tupK (K := K) rfl (pv 0)) (blkOk_by (by rfl))
            (fun _ _ _ _ _ => pg_name (i := 1) sc_bars_of_all.nd rfl (Or.inl rfl)) (fun _ _ _ _ _ => pts_nil)
            (fun _ _ _ _ _ => pe_call G1 hr (by rfl) g1 kp1 b1 .nil pass0 (pa_cons (pv 2) (pa_cons (pv 1) pa_nil)))) pa_nil))) pa_nil))), ?_⟩
    obtain ⟨a', xs, ea, hS, hT⟩ := hW.toTup
    cases ea
    have hlen := hT.len
    rw [List.length_map] at hlen
    refine ⟨.ref a, rfl, a, rfl, ⟨_, hS⟩, fun D hD => ?_⟩
    refine lc_tup (xs := xs) (fun i H' => Grow K H D (barD ws) i H') (.zero hD) (fun i H' _ h => Same.tup h.1 hS) (fun i x H' hx h => ?_) (fun H' h => ?_)
    · obtain ⟨o, c1, ho, rfl, hc1⟩ := hT.works hx
      have fewr : (ws.map (cellD o)).length ≤ 1000 := by
        have := hg.few
        rw [List.length_map]
        omega
      refine ⟨rfl, ?_⟩
      refine ⟨.ref a, rfl, a, rfl, ⟨_, Same.tup h.1 hS⟩, fun D2 hD2 => ?_⟩
      refine lc_tup (xs := xs) (fun j H2 => Grow K H' D2 (ws.map (cellD o)) j H2) (.zero hD2) (fun i H2 _ h2 => Same.tup (h.1.trans h2.1) hS) (fun j y H2 hy h2 => ?_) (fun H2 h2 => ?_)
      · obtain ⟨o2, c2, ho2, rfl, hc2⟩ := hT.works hy
        refine ⟨rfl, .ref c1, rfl, .ref c2, rfl, c1, c2, o, o2, rfl, Same.tup (h.1.trans h2.1) hc1, Same.tup (h.1.trans h2.1) hc2, hg.mem ho, hg.mem ho2, fun H3 p e3 np hp => ?_⟩
        refine h2.next hD2 fewr e3 (by rw [List.getElem?_map, ho2]; rfl) (.ofInts ?_)
        rw [← nV_eq]
        exact .of hp
      · obtain ⟨e2, acc, g1, g2⟩ := h2.done (by rw [List.length_map, hlen])
        refine ⟨D2, acc, rfl, .inl ⟨.of g1, fun l nl => ?_⟩⟩
        exact h.next hD hg.lt (e2.trans (same_new nl)) (by rw [List.getElem?_map, ho]; rfl) (.new nl g2)
    · obtain ⟨e2, acc, g1, g2⟩ := h.done (by rw [List.length_map, hlen])
      exact ⟨D, acc, rfl, .inl ⟨.of g1, fun l nl => q _ l (e2.trans (same_new nl)) (.new nl g2)⟩⟩
end
end Sg
set_option Elab.async false
set_option linter.all false
set_option maxRecDepth 100000
set_option maxHeartbeats 4000000
namespace Sg
open PySem PySem.Spec PyProof.Rows L2 StX
/-! ## the bars of a line, flat -/
theorem flatL_of {K : PySem.W.Frag} {H : Hp} {a : List Int} : ∀ {cells : List V} {ws : List (List Int)}, TpAll K H cells (ws.map (cellD a)) → FlatL K H cells ((rowB a ws).map V.int)
  | _, [], .no => .nil
  | _, b :: ws, .on t r => by
    obtain ⟨c, rfl, hs⟩ := t.toInts
    show FlatL K H _ ((nI (barsN a b) ++ rowB a ws).map V.int)
    rw [List.map_append]
    exact .cons hs (flatL_of r)
theorem flatR_of {K : PySem.W.Frag} {H : Hp} {vs : List (List Int)} : ∀ {rows : List V} {ws : List (List Int)}, TpAll K H rows (ws.map fun a => rowD a vs) → FlatR K H rows ((allB ws vs).map V.int)
  | _, [], .no => .nil
  | _, b :: ws, .on t r => by
    obtain ⟨c, xs, rfl, hs, ht⟩ := t.toTup
    show FlatR K H _ ((rowB b vs ++ allB ws vs).map V.int)
    rw [List.map_append]
    exact .cons hs (flatL_of ht) (flatR_of r)
theorem bars_le {a b : List Int} (h : IsWork a) : (nI (barsN a b)).length ≤ 60 := by
  rw [List.length_map]
  have := h.most
  exact Nat.le_trans (barsTo_len a b (a.length - 1)) (by omega)
theorem rowB_len {a : List Int} (h : IsWork a) : ∀ (ws : List (List Int)), (rowB a ws).length ≤ 60 * ws.length
  | [] => Nat.le_refl _
  | b :: ws => by
    show (nI (barsN a b) ++ rowB a ws).length ≤ _
    rw [List.length_append, List.length_cons]
    have := bars_le h (b := b)
    have := rowB_len h ws
    omega
theorem allB_len {vs : List (List Int)} : ∀ (ws : List (List Int)), (∀ w ∈ ws, IsWork w) → (allB ws vs).length ≤ 60 * vs.length * ws.length
  | [], _ => Nat.zero_le _
  | b :: ws, h => by
    show (rowB b vs ++ allB ws vs).length ≤ _
    rw [List.length_append, List.length_cons, Nat.mul_succ]
    have := rowB_len (h b List.mem_cons_self) vs
    have := allB_len (vs := vs) ws fun w hw => h w (List.mem_cons_of_mem _ hw)
    omega
theorem mem_allB {ws vs : List (List Int)} {x : Int} : x ∈ allB ws vs ↔ ∃ a ∈ ws, ∃ b ∈ vs, x ∈ nI (barsN a b) := by
  unfold allB rowB
  simp only [List.mem_flatMap]
theorem bar_pos {a b : List Int} {x : Int} (h : x ∈ nI (barsN a b)) : 1 ≤ x := by
  obtain ⟨d, hd, rfl⟩ := List.mem_map.mp h
  have := (List.mem_range'_1.mp (List.mem_filter.mp hd).1).1
  omega
theorem top_of {l : List Int} {m : Int} (hp : ∀ x ∈ l, 1 ≤ x) (h0 : l = [] → m = 0) (h1 : l ≠ [] → m ∈ l ∧ ∀ x ∈ l, x ≤ m) : Top l m := by
  by_cases z : l = []
  · have e := h0 z
    subst z
    exact ⟨by omega, fun x hx => (nomatch hx), .inl e⟩
  · obtain ⟨g1, g2⟩ := h1 z
    exact ⟨by have := hp _ g1; omega, g2, .inr g1⟩
section
variable {P : Program} {w : World} {K : PySem.W.Frag} {mg : Str → Option Value} {base : Heap}
/-! ### __init__ -/
def spInit (K : PySem.W.Frag) (C : Addr) : Sp := fun vs H Q _ => ∃ (x dx : Addr) (rest : List V) (ws : List (List Int)), vs = .ref x :: rest ∧ H x = some (.ins C dx []) ∧ TpAll K H rest (tDs ws) ∧ GoodL ws ∧
  ∀ H', (∀ b o, H b = some o → b ≠ x → H' b = some o) → LineAt K C H' x ws → Q .non H'
theorem ok_init {f f1 f2 C : Addr} {fd fd1 fd2 : FuncData} {k : Nat} (F : Fun K "__init__" "Line.__init__" s_Line_init f fd) (T : LC K mg C) (hM : ∃ t, mg "MOST_WORKS" = some (.int 3 t))
    (G1 : FnOk P w K mg base CX0 k f1 fd1 ["thing"] (spIsWork K)) (kp1 : PySem.W.keepIn K (.ref f1) = true) (b1 : Binds K fd1 ["thing"] []) (g1 : mg "is_work" = some (.ref f1))
    (G2 : FnOk P w K mg base CX0 k f2 fd2 ["works"] (spBarsAll K)) (kp2 : PySem.W.keepIn K (.ref f2) = true) (b2 : Binds K fd2 ["works"] []) (g2 : mg "_bars_of_all" = some (.ref f2))
    (m1 : mg "all" = none) (m2 : mg "len" = none) (m3 : mg "max" = none) : FnR P w K mg base CX0 (k + 1) f (spInit K C) := by
  obtain ⟨tM, nM⟩ := hM
  obtain ⟨oc, od, kV, doc, pm, an, cdv, ct, osl, rfl, lk, hcd⟩ := F.ex
  have R := fn_star (CX := CX0) (P := P) (w := w) (mg := mg) (base := base) (k := k) (ps := ["self"]) (pv := "works") (sp := fun vs H Q _ => ∃ (x dx p : Addr) (rest : List V) (ws : List (List Int)), vs = [.ref x, .ref p] ∧ H x = some (.ins C dx []) ∧ H p = some (.tup rest) ∧ TpAll K H rest (tDs ws) ∧ GoodL ws ∧
    ∀ H', (∀ b o, H b = some o → b ≠ x → H' b = some o) → LineAt K C H' x ws → Q .non H') lk hcd sc_Line_init cxUp_none (bind_star1 (B := fun us => bindArgs (PySem.W.fnOf "__init__" "Line.__init__" (defArgs s_Line_init) (defBody s_Line_init) (defScope s_Line_init) .none kV doc pm an cdv ct) ⟨us, []⟩) (fun _ => rfl) (fun _ _ _ => rfl)) ?_
  · refine R.imp fun vs H Q E h => ?_
    obtain ⟨x, dx, rest, ws, rfl, hx, hT, hg, q⟩ := h
    have hl := hT.len
    have := hg.few
    rw [List.length_map] at hl
    refine ⟨[.ref x], rest, rfl, rfl, Nat.le_of_lt (small1000 (by omega)), fun p np => ⟨x, dx, p, rest, ws, rfl, same_new np _ _ hx, upd_same, hT.stay (.of (same_new np)), hg, fun H' hk hL => q H' (fun b o e hb => hk b o (same_new np _ _ e) hb) hL⟩⟩
  · intro A outer s H vs Q E hr h
    obtain ⟨x, dx, p, rest, ws, rfl, hx, hp, hT, hg, q⟩ := h
    refine ⟨_, pss_cons (ps_if (PW.pt (pw_or (pt_not (pt_truth (pv 1) (fun _ => rfl))) (pw_or1 (pt_not (pt_val (pe_callB (cr_all rfl) (by rfl) m1 (by decide +kernel) (pa_cons
        (pe_lc (own := [("work", 2)]) (g := gName 2) (tt := tYes) rfl sc_Line_init.nd (pi_tup (pv 1)) (blkOk_by (N := ["self", "works", "work", "row", "pair", "bar"]) (sc := defScope s_Line_init) (by decide +kernel))
          (fun _ _ _ _ _ => pg_name (i := 2) sc_Line_init.nd rfl (Or.inl rfl)) (fun _ _ _ _ _ => pts_nil)
          (fun _ _ _ _ _ => pe_call G1 hr (by rfl) g1 kp1 b1 .nil pass0 (pa_cons (pv 2) pa_nil))) pa_nil))))))) (pss_one ps_never) pss_nil)
      (pss_cons (ps_if (pt_cmpR op_gt (pe_callB call_len_seq (by rfl) m2 PySem.boot_len (pa_cons (pv 1) pa_nil)) (pe_glob (v := .int 3) (by rfl) nM ⟨_, rfl⟩) (nomark _)) (pss_one ps_never) pss_nil)
      (pss_cons (ps_fld (pv 0) (pv 1) rfl)
      (pss_cons (ps_fld (pv 0) (pe_call G2 hr (by rfl) g2 kp2 b2 .nil pass0 (pa_cons (pv 1) pa_nil)) rfl)
      (pss_one (ps_fld (pv 0) (pe_callBK (cr_maxD rfl hr) (by rfl) m3 (by decide +kernel) (pa_cons (pe_flat (k1 := 3) (k2 := 4) (k3 := 5) (own := [("row", 3), ("pair", 4), ("bar", 5)]) rfl sc_Line_init.nd (pe_fld (pv 0) rfl)
          (blkOk_by (N := ["self", "works", "work", "row", "pair", "bar"]) (sc := defScope s_Line_init) (by decide +kernel)) rfl rfl rfl (fun _ _ => rfl) (fun _ _ => rfl) (fun _ _ => rfl)) pa_nil) (pk_cons pe_int pk_nil)) rfl))))), ?_⟩
    have hl := hT.len
    rw [List.length_map] at hl
    have hp' : SqT K H p rest := .of hp
    have hemp : (!rest.isEmpty) = true := by
      have := hg.least
      cases rest with
      | nil => rw [← hl] at this; exact absurd this (by decide)
      | cons => rfl
    refine ⟨.ref p, rfl, !rest.isEmpty, .inr (.inl ⟨rest, hp', rfl⟩), ?_⟩
    rw [hemp]
    refine iteF ?_
    refine ⟨.ref p, rfl, p, rfl, ⟨_, hp'⟩, fun D hD => ?_⟩
    refine lc_tup (xs := rest) (fun i H' => Same H H' ∧ H' D = some (.lst (((List.replicate i true)).map V.bl))) ⟨same_new hD, upd_same⟩ (fun i H' _ h => Same.tup h.1 hp') (fun i y H' hy h => ?_) (fun H' h => ?_)
    · obtain ⟨w1, c, hw, rfl, hc⟩ := hT.works hy
      refine ⟨rfl, .ref c, rfl, c, w1, rfl, Same.tup h.1 hc, hg.mem hw, fun H2 e2 => ?_⟩
      refine ⟨_, e2 _ _ h.2, ?_, fun b o e => ?_, ?_⟩
      · rw [List.length_map, List.length_replicate]
        have := hg.few
        have := (List.getElem?_eq_some_iff.mp hw).1
        exact small1000 (by omega)
      · rw [upd_ne (ne_of_none e hD)]
        exact e2 _ _ (h.1 _ _ e)
      · rw [upd_same, List.replicate_succ', List.map_append]
        rfl
    · have hall : (List.replicate rest.length true).all id = true := by simp
      refine ⟨D, _, rfl, .of h.2, true, congrArg V.bl hall, iteF ?_⟩
      have hpH : SqT K H' p rest := Same.tup h.1 hp'
      refine ⟨.ref p, rfl, p, rest, rfl, .inr hpH, _, 3, rfl, rfl, _, rfl, ?_⟩
      have c3 : decide ((((rest.length : Nat) : Int)) > 3) = false := decide_eq_false (by have := hg.few; omega)
      rw [c3]
      refine iteF ?_
      have hx1 := h.1 _ _ hx
      refine ⟨.ref p, rfl, .ref x, rfl, x, C, dx, [], rfl, hx1, T.cl, T.nW, (by show 0 < 1000; decide), ?_⟩
      have hW1 : Tp K H' (.ref p) (.tuple (tDs ws)) := .tu hpH (hT.stay (.of h.1))
      have hW2 := hW1.stayT (tu_ins hx1 (o := .ins C dx (putF "_works" (.ref p) [])))
      generalize hH2 : upd H' x (.ins C dx (putF "_works" (.ref p) [])) = H2 at hW2 ⊢
      have hx2 : H2 x = some (.ins C dx (putF "_works" (.ref p) [])) := by rw [← hH2]; exact upd_same
      refine ⟨.ref p, rfl, p, ws, rfl, hW2, hg, fun H3 b e3 hb => ?_⟩
      have hx3 := e3 _ _ hx2
      refine ⟨.ref x, rfl, x, C, dx, _, rfl, hx3, T.cl, T.nB, (by show 1 < 1000; decide), ?_⟩
      have hW4 := (hW2.stay (.of e3)).stayT (tu_ins hx3 (o := .ins C dx (putF "_bars" (.ref b) (putF "_works" (.ref p) []))))
      have hB4 := hb.stayT (tu_ins hx3 (o := .ins C dx (putF "_bars" (.ref b) (putF "_works" (.ref p) []))))
      generalize hH4 : upd H3 x (.ins C dx (putF "_bars" (.ref b) (putF "_works" (.ref p) []))) = H4 at hW4 hB4 ⊢
      have hx4 : H4 x = some (.ins C dx (putF "_bars" (.ref b) (putF "_works" (.ref p) []))) := by rw [← hH4]; exact upd_same
      obtain ⟨b', rows, eb, hbS, hbT⟩ := hB4.toTup
      cases eb
      have lb : (putF "_bars" (.ref b) (putF "_works" (.ref p) [])).lookup ("_bars" : Str) = some (.ref b) := by rw [lookup_putF, if_pos rfl]
      have lenB : ((allB ws ws).map V.int).length ≤ 1000000 := by
        rw [List.length_map]
        have z := allB_len (vs := ws) ws hg.work
        have := hg.few
        have z2 : 60 * ws.length * ws.length ≤ 60 * 3 * 3 := Nat.mul_le_mul (Nat.mul_le_mul (Nat.le_refl _) this) this
        omega
      refine ⟨.ref x, rfl, x, C, dx, _, _, rfl, hx4, T.cl, T.nB, lb, b, rows, _, rfl, hbS, flatR_of hbT, lenB, fun D2 nD2 => ?_⟩
      have s5 : Same H4 (upd H4 D2 (.lst ((allB ws ws).map V.int))) := same_new nD2
      refine ⟨D2, allB ws ws, 0, rfl, rfl, .of upd_same, fun m h0 h1 => ?_⟩
      have hx5 := s5 _ _ hx4
      refine ⟨.ref x, rfl, x, C, dx, _, rfl, hx5, T.cl, T.nR, (by show 2 < 1000; decide), ?_⟩
      have hW6 := (hW4.stay (.of s5)).stayT (tu_ins hx5 (o := .ins C dx (lf p b m)))
      have hB6 := (hB4.stay (.of s5)).stayT (tu_ins hx5 (o := .ins C dx (lf p b m)))
      refine q _ (fun c o e hc => ?_) ⟨dx, p, b, m, upd_same, hW6, hB6, top_of (fun y hy => ?_) h0 h1, hg⟩
      · rw [upd_ne hc]
        refine s5 _ _ ?_
        rw [← hH4, upd_ne hc]
        refine e3 _ _ ?_
        rw [← hH2, upd_ne hc]
        exact h.1 _ _ e
      · obtain ⟨_, _, _, _, z⟩ := mem_allB.mp hy
        exact bar_pos z
end
end Sg
set_option Elab.async false
set_option linter.all false
set_option maxRecDepth 100000
set_option maxHeartbeats 4000000
namespace Sg
open PySem PySem.Spec PyProof.Rows L2 StX
/-! ## a Line is made -/
theorem make_line {K : PySem.W.Frag} {C : Addr} {H1 : Hp} {vs : List V} {ws : List (List Int)} {Q : VK} (hT : TpAll K H1 vs (tDs ws)) (hg : GoodL ws)
    (q : ∀ H' a, Same H1 H' → H1 a = none → LineAt K C H' a ws → Q (.ref a) H') :
    ∀ x dx, H1 x = none → H1 dx = none → dx ≠ x → spInit K C (V.ref x :: vs) (upd (upd H1 dx (.own x)) x (.ins C dx [])) (fun v H2 => v = .non ∧ Q (.ref x) H2) E0 := by
  intro x dx nx ndx ne
  have s0 : Same H1 (upd (upd H1 dx (.own x)) x (.ins C dx [])) := fun b o e => by
    rw [upd_ne (ne_of_none e nx), upd_ne (ne_of_none e ndx)]
    exact e
  exact ⟨x, dx, vs, ws, rfl, upd_same, hT.stay (.of s0), hg, fun H' hk hL => ⟨rfl, q H' x (fun b o e => hk b o (s0 b o e) (ne_of_none e nx)) nx hL⟩⟩
/-- C(*e) -/
theorem pe_makeS {X : Cx} {CX : CXT} {k : Nat} {f C : Addr} {sp : Sp} {E : XK} {x : Str} {e : Expr} {te : TE} {p pos sp_ : Pos} (M : Mk X.K C f) (F : FnR X.prog X.w X.K X.mg X.base CX k f sp) (hr : Room (k + 1) X.A)
    (hg : Gl X x) (hm : X.mg x = some (.ref C)) (hx : Passes CX X E) (he : PE X e te) (hd : (x == ("__debug__" : Str)) = false := by decide) (hst : starEach [.Starred e sp_] X.env = [(true, eval e X.env)] := by rfl) :
    PE X (.Call (.Name x p) [.Starred e sp_] [] pos) (fun σ H Q => te σ H fun y H1 => ∃ a xs, y = V.ref a ∧ (SqT X.K H1 a xs ∨ SqL X.K H1 a xs) ∧
      ∀ z dz, H1 z = none → H1 dz = none → dz ≠ z → sp (V.ref z :: xs) (upd (upd H1 dz (.own z)) z (.ins C dz [])) (fun v H2 => v = .non ∧ Q (.ref z) H2) E) := by
  refine ⟨fun pins s σ H Q I h => wpAny_Call_Name_kw (ld_glob I hg hm ?_ hd)⟩
  refine PySem.W.callWith_S (h₀ := X.base) I.ok.mod.kin M.kp (thn (he.run pins s σ H _ I h) fun v s1 ⟨y, H1, I1, ry, a, xs, ey, hxs, q⟩ => ?_) hst
  subst ey
  obtain rfl : v = Value.ref a := ry
  exact star_any I1 hxs fun us s2 I2 rv => ⟨I2.kIn, run_makeR M F hr hx I2 rv q⟩
theorem GoodL.back {ws : List (List Int)} (h : GoodL ws) : GoodL (ws.map List.reverse) := by
  refine ⟨by rw [List.length_map]; exact h.least, by rw [List.length_map]; exact h.few, fun w hw => ?_⟩
  obtain ⟨v, hv, rfl⟩ := List.mem_map.mp hw
  have i := h.work v hv
  refine ⟨by rw [List.length_reverse]; exact i.pos, by rw [List.length_reverse]; exact i.most, fun x hx => i.items x (List.mem_reverse.mp hx), fun x hx => ?_, fun x hx => ?_⟩
  · have := i.pos
    rw [List.getElem?_reverse (by omega)] at hx
    exact i.last x (by rw [← hx]; congr 1)
  · have := i.pos
    rw [List.length_reverse, List.getElem?_reverse (by omega)] at hx
    exact i.head x (by rw [← hx]; congr 1; omega)
theorem cut_upto (xs : List V) (d : Nat) : cutV xs none (some (d : Int)) = xs.take d := by
  unfold cutV
  rw [HT.sIx_nat, HT.sIx_none, List.drop_zero, Nat.sub_zero]
  rcases Nat.le_total d xs.length with h | h
  · rw [Nat.min_eq_left h]
  · rw [Nat.min_eq_right h, List.take_of_length_le h, List.take_length]
end Sg
set_option Elab.async false
set_option linter.all false
set_option maxRecDepth 100000
set_option maxHeartbeats 4000000
namespace Sg
open PySem PySem.Spec PyProof.Rows L2 StX
/-- what isinstance asks of the class -/
structure LI (K : PySem.W.Frag) (C : Addr) : Prop where
  ha : PySem.W.findIn K (.ref C) "__class__" = some (some (.builtin "object.__class__"))
  hn : PySem.W.specialIn K (.builtin "object.__class__") "__get__" = some (some (.builtin "getset_descriptor.__get__"))
  ht : PySem.W.takesIn K (.builtin "object.__class__") = some true
  hm : PySem.W.mroIn K C (.type "object") = some true
  kit : PySem.W.kitOne K (.ref C) (.ref C) = some true
section
variable {P : Program} {w : World} {K : PySem.W.Frag} {mg : Str → Option Value} {base : Heap}
theorem isLine {C a : Addr} {H : Hp} {ws : List (List Int)} (c : Cls K C) (T : LI K C) (h : LineAt K C H a ws) : TyX K H (.ref a) (.ref C) := by
  obtain ⟨dx, t, b, r, h1, _⟩ := h
  exact .base (.ins h1 c T.ha T.hn T.ht T.hm)
/-! ### line(one, other) -/
def spCall (K : PySem.W.Frag) (C : Addr) : Sp := fun vs H Q _ => ∃ (a : Addr) (ws : List (List Int)) (i j : Nat) (x y : List Int), vs = [.ref a, .int i, .int j] ∧ LineAt K C H a ws ∧ ws[i]? = some x ∧ ws[j]? = some y ∧
  ∀ c, SqT K H c (nV (barsN x y)) → Q (.ref c) H
theorem ok_call {f f1 C : Addr} {fd fd1 : FuncData} {k : Nat} (F : Fun K "__call__" "Line.__call__" s_Line_call f fd) (T : LC K mg C)
    (G1 : FnOk P w K mg base CX0 k f1 fd1 ["line", "thing"] (spReqKind K C)) (kp1 : PySem.W.keepIn K (.ref f1) = true) (b1 : Binds K fd1 ["line", "thing"] []) (g1 : mg "require_kind" = some (.ref f1)) :
    FnOk P w K mg base CX0 (k + 1) f fd ["self", "one", "other"] (spCall K C) := by
  refine F.ok sc_Line_call (fun vs H Q E h => ?_) (fun cdv A outer s H vs Q E hr h => ?_)
  · obtain ⟨a, ws, i, j, x, y, rfl, _⟩ := h; rfl
  · obtain ⟨a, ws, i, j, x, y, rfl, hL, hx, hy, q⟩ := h
    refine ⟨_, pss_cons (ps_expr (pe_call G1 hr (by rfl) g1 kp1 b1 .nil pass0 (pa_cons (pv 0) (pa_cons (pv 1) pa_nil))))
      (pss_cons (ps_expr (pe_call G1 hr (by rfl) g1 kp1 b1 .nil pass0 (pa_cons (pv 0) (pa_cons (pv 2) pa_nil))))
      (pss_one (ps_ret (pe_ix ix_tup (pe_ix ix_tup (pe_fld (pv 0) rfl) (pv 1) (fun _ _ => rfl)) (pv 2) (fun _ _ => rfl))))), ?_⟩
    have hi := (List.getElem?_eq_some_iff.mp hx).1
    have hj := (List.getElem?_eq_some_iff.mp hy).1
    refine ⟨.ref a, rfl, .int i, rfl, a, ws, i, rfl, hL, hi, .ref a, rfl, .int j, rfl, a, ws, j, rfl, hL, hj, ?_⟩
    obtain ⟨dx, t, b, r, h1, h2, h3, h4, h5⟩ := hL
    obtain ⟨b', rows, eb, hS, hT⟩ := h3.toTup
    cases eb
    have lr := hT.len
    rw [List.length_map] at lr
    obtain ⟨ro, hro⟩ : ∃ ro, rows[i]? = some ro := ⟨rows[i]'(by omega), List.getElem?_eq_getElem _⟩
    obtain ⟨d, hd, tr⟩ := hT.at hro
    rw [List.getElem?_map, hx] at hd
    cases hd
    obtain ⟨b2, cells, rfl, hS2, hT2⟩ := tr.toTup
    have lc := hT2.len
    rw [List.length_map] at lc
    obtain ⟨ce, hce⟩ : ∃ ce, cells[j]? = some ce := ⟨cells[j]'(by omega), List.getElem?_eq_getElem _⟩
    obtain ⟨d, hd, tc⟩ := hT2.at hce
    rw [List.getElem?_map, hy] at hd
    cases hd
    obtain ⟨c, rfl, hc⟩ := tc.toInts
    refine ⟨.ref a, rfl, a, C, dx, _, _, rfl, h1, T.cl, T.nB, lf_bars _ _ _, .int i, rfl, b, rows, i, .ref b2, rfl, rfl, hS, atI_nat hro, ?_⟩
    refine ⟨.int j, rfl, b2, cells, j, .ref c, rfl, rfl, hS2, atI_nat hce, q c ?_⟩
    rw [nV_eq]
    exact hc
/-! ### one == other -/
def spEq (K : PySem.W.Frag) (C : Addr) : Sp := fun vs H Q _ => ∃ (a b : Addr) (ws us : List (List Int)), vs = [.ref a, .ref b] ∧ LineAt K C H a ws ∧ LineAt K C H b us ∧ Q (.bl (decide (ws = us))) H
theorem ok_eq {f C : Addr} {fd : FuncData} {k : Nat} (F : Fun K "__eq__" "Line.__eq__" s_Line_eq f fd) (T : LC K mg C) (I : LI K C) (m1 : mg "isinstance" = none) :
    FnOk P w K mg base CX0 (k + 1) f fd ["self", "other"] (spEq K C) := by
  refine F.ok sc_Line_eq (fun vs H Q E h => ?_) (fun cdv A outer s H vs Q E hr h => ?_)
  · obtain ⟨a, b, ws, us, rfl, _⟩ := h; rfl
  · obtain ⟨a, b, ws, us, rfl, hL, hR, q⟩ := h
    have hu := hr.units
    refine ⟨_, pss_one (ps_ret (pe_and (pe_callB call_isi (by rfl) m1 (by decide +kernel) (pa_cons (pv 1) (pa_cons (pe_glob (v := .ref C) (by rfl) T.mgC rfl) pa_nil)))
      (pe_one (pe_cmpR (op_eqD hu) (pe_fld (pv 0) rfl) (pe_fld (pv 1) rfl) (nomark _))))), ?_⟩
    refine ⟨.ref b, rfl, .ref b, .ref C, .ref C, .ref C, true, rfl, .own C, isLine T.cl I hR, I.kit, ?_⟩
    obtain ⟨dx, t, b1, r, h1, h2, h3, h4, h5⟩ := hL
    obtain ⟨dx', t', b1', r', h1', h2', h3', h4', h5'⟩ := hR
    refine ⟨true, rfl, iteT ?_⟩
    refine ⟨.ref a, rfl, a, C, dx, _, _, rfl, h1, T.cl, T.nW, lf_works _ _ _, .ref b, rfl, b, C, dx', _, _, rfl, h1', T.cl, T.nW, lf_works _ _ _, _, _, h2.dp, h2'.dp, shaped_tDs _, shaped_tDs _, ?_⟩
    rw [show PyData.eqv (.tuple (tDs ws)) (.tuple (tDs us)) = decide (ws = us) from by rw [PyData.eqv, eqv_tDs]]
    exact q
end
end Sg
set_option Elab.async false
set_option linter.all false
set_option maxRecDepth 100000
set_option maxHeartbeats 4000000
namespace Sg
open PySem PySem.Spec PyProof.Rows L2 StX
section
variable {P : Program} {w : World} {K : PySem.W.Frag} {mg : Str → Option Value} {base : Heap}
theorem GoodL.plus {ws us : List (List Int)} (h : GoodL ws) (g : GoodL us) (hl : ws.length + us.length ≤ 3) : GoodL (ws ++ us) := by
  refine ⟨by have := h.least; rw [List.length_append]; omega, by rw [List.length_append]; exact hl, fun w hw => ?_⟩
  rcases List.mem_append.mp hw with z | z
  · exact h.work w z
  · exact g.work w z
theorem GoodL.less {ws : List (List Int)} (h : GoodL ws) {i : Nat} (hi : i < ws.length) (h2 : 2 ≤ ws.length) : GoodL (ws.take i ++ ws.drop (i + 1)) := by
  have := h.few
  refine ⟨by rw [List.length_append, List.length_take, List.length_drop]; omega, by rw [List.length_append, List.length_take, List.length_drop]; omega, fun w hw => ?_⟩
  rcases List.mem_append.mp hw with z | z
  · exact h.work w (List.mem_of_mem_take z)
  · exact h.work w (List.mem_of_mem_drop z)
/-! ### one + other -/
def spAdd (K : PySem.W.Frag) (C : Addr) : Sp := fun vs H Q _ => ∃ (a b : Addr) (ws us : List (List Int)), vs = [.ref a, .ref b] ∧ LineAt K C H a ws ∧ LineAt K C H b us ∧ ws.length + us.length ≤ 3 ∧
  ∀ H' x, Same H H' → H x = none → LineAt K C H' x (ws ++ us) → Q (.ref x) H'
theorem ok_add {f f1 C : Addr} {fd : FuncData} {k : Nat} (F : Fun K "__add__" "Line.__add__" s_Line_add f fd) (T : LC K mg C) (I : LI K C) (M : Mk K C f1) (G : FnR P w K mg base CX0 k f1 (spInit K C)) (m1 : mg "isinstance" = none) :
    FnOk P w K mg base CX0 (k + 2) f fd ["self", "other"] (spAdd K C) := by
  refine F.ok sc_Line_add (fun vs H Q E h => ?_) (fun cdv A outer s H vs Q E hr h => ?_)
  · obtain ⟨a, b, ws, us, rfl, _⟩ := h; rfl
  · obtain ⟨a, b, ws, us, rfl, hL, hR, hl, q⟩ := h
    refine ⟨_, pss_cons (ps_if (pt_not (pt_val (pe_callB call_isi (by rfl) m1 (by decide +kernel) (pa_cons (pv 1) (pa_cons (pe_glob (v := .ref C) (by rfl) T.mgC rfl) pa_nil))))) (pss_one ps_never) pss_nil)
      (pss_cons (ps_set (i := 2) sc_Line_add.nd rfl (Or.inl rfl) (pe_op op_catA (pe_fld (pv 0) rfl) (pe_fld (pv 1) rfl)))
      (pss_one (ps_ret (pe_makeS M G hr (by rfl) T.mgC pass0 (pv 2))))), ?_⟩
    refine ⟨.ref b, rfl, .ref b, .ref C, .ref C, .ref C, true, rfl, .own C, isLine T.cl I hR, I.kit, true, rfl, iteF ?_⟩
    obtain ⟨dx, t, b1, r, h1, h2, h3, h4, h5⟩ := id hL
    obtain ⟨dx', t', b1', r', h1', h2', h3', h4', h5'⟩ := id hR
    obtain ⟨_, xs, e, hS, hT⟩ := h2.toTup
    cases e
    obtain ⟨_, ys, e, hS', hT'⟩ := h2'.toTup
    cases e
    have l1 := hT.len
    have l2 := hT'.len
    rw [List.length_map] at l1 l2
    have p1 := h5.least
    have p2 := h5'.least
    refine ⟨.ref a, rfl, a, C, dx, _, _, rfl, h1, T.cl, T.nW, lf_works _ _ _, .ref b, rfl, b, C, dx', _, _, rfl, h1', T.cl, T.nW, lf_works _ _ _, t, t', xs, ys, rfl, rfl, hS, hS', Nat.le_of_lt (small1000 (by omega)),
      (fun z => ?_), (fun _ z => ?_), (fun _ _ p np => ?_)⟩
    · rw [z] at l1; rw [← l1] at p1; exact absurd p1 (by decide)
    · rw [z] at l2; rw [← l2] at p2; exact absurd p2 (by decide)
    · refine ⟨.ref p, rfl, p, xs ++ ys, rfl, .inl (.of upd_same), ?_⟩
      have st : St K H (upd H p (.tup (xs ++ ys))) := .of (same_new np)
      refine make_line (ws := ws ++ us) ?_ (h5.plus h5' hl) (fun H' x e3 nx hLx => ?_)
      · have z := (hT.stay st).add (hT'.stay st)
        rw [← List.map_append] at z
        exact z
      · exact q H' x ((same_new np).trans e3) (Same.free (same_new np) nx) hLx
/-! ### line - kind -/
def spSub (K : PySem.W.Frag) (C : Addr) : Sp := fun vs H Q _ => ∃ (a : Addr) (ws : List (List Int)) (i : Nat), vs = [.ref a, .int i] ∧ LineAt K C H a ws ∧ i < ws.length ∧ 2 ≤ ws.length ∧
  ∀ H' x, Same H H' → H x = none → LineAt K C H' x (ws.take i ++ ws.drop (i + 1)) → Q (.ref x) H'
theorem ok_sub {f f1 f2 C : Addr} {fd fd2 : FuncData} {k : Nat} (F : Fun K "__sub__" "Line.__sub__" s_Line_sub f fd) (T : LC K mg C) (M : Mk K C f1) (G : FnR P w K mg base CX0 k f1 (spInit K C))
    (G2 : FnOk P w K mg base CX0 k f2 fd2 ["line", "thing"] (spReqKind K C)) (kp2 : PySem.W.keepIn K (.ref f2) = true) (b2 : Binds K fd2 ["line", "thing"] []) (g2 : mg "require_kind" = some (.ref f2)) (m1 : mg "len" = none) :
    FnOk P w K mg base CX0 (k + 2) f fd ["self", "other"] (spSub K C) := by
  refine F.ok sc_Line_sub (fun vs H Q E h => ?_) (fun cdv A outer s H vs Q E hr h => ?_)
  · obtain ⟨a, ws, i, rfl, _⟩ := h; rfl
  · obtain ⟨a, ws, i, rfl, hL, hi, h2w, q⟩ := h
    refine ⟨_, pss_cons (ps_expr (pe_call G2 (hr.mono (Nat.le_succ k)) (by rfl) g2 kp2 b2 .nil pass0 (pa_cons (pv 0) (pa_cons (pv 1) pa_nil))))
      (pss_cons (ps_if (pt_cmpR op_eq (pe_callB call_len_seq (by rfl) m1 PySem.boot_len (pa_cons (pe_fld (pv 0) rfl) pa_nil)) pe_int (nomark _)) (pss_one ps_never) pss_nil)
      (pss_cons (ps_set (i := 2) sc_Line_sub.nd rfl (Or.inl rfl) (pe_op op_catA (pe_slice sl_tup (pe_fld (pv 0) rfl) po_none (po_some (pv 1))) (pe_slice sl_tup (pe_fld (pv 0) rfl) (po_some (pe_op op_add (pv 1) pe_int)) po_none)))
      (pss_one (ps_ret (pe_makeS M G hr (by rfl) T.mgC pass0 (pv 2)))))), ?_⟩
    refine ⟨.ref a, rfl, .int i, rfl, a, ws, i, rfl, hL, hi, ?_⟩
    obtain ⟨dx, t, b1, r, h1, h2, h3, h4, h5⟩ := id hL
    obtain ⟨_, xs, e, hS, hT⟩ := h2.toTup
    cases e
    have l1 := hT.len
    rw [List.length_map] at l1
    have few := h5.few
    refine ⟨.ref a, rfl, a, C, dx, _, _, rfl, h1, T.cl, T.nW, lf_works _ _ _, t, xs, rfl, .inr hS, rfl, ?_⟩
    have c1 : decide (V.int ((xs.length : Nat) : Int) = V.int 1) = false := decide_eq_false fun z => by have := V.int.inj z; omega
    rw [c1]
    refine ⟨false, rfl, iteF ?_⟩
    have w1 : ¬ (HT.sIx xs.length 0 none = 0 ∧ HT.sIx xs.length xs.length (some (i : Int)) = xs.length) := by
      rintro ⟨_, z⟩
      rw [HT.sIx_nat] at z
      omega
    refine ⟨.ref a, rfl, a, C, dx, _, _, rfl, h1, T.cl, T.nW, lf_works _ _ _, .int i, rfl, i, rfl, t, xs, rfl, hS, w1, fun p np => ?_⟩
    have s1 : Same H (upd H p (.tup (cutV xs none (some (i : Int))))) := same_new np
    have e1 : ((i : Int) + 1) = ((i + 1 : Nat) : Int) := by omega
    have w2 : ¬ (HT.sIx xs.length 0 (some ((i : Int) + 1)) = 0 ∧ HT.sIx xs.length xs.length none = xs.length) := by
      rintro ⟨z, _⟩
      rw [e1, HT.sIx_nat] at z
      omega
    have hp1 : (upd H p (.tup (cutV xs none (some (i : Int))))) p = some (.tup (xs.take i)) := by rw [upd_same, cut_upto]
    generalize hH1 : upd H p (.tup (cutV xs none (some (i : Int)))) = H1 at s1 hp1 ⊢
    refine ⟨.ref a, rfl, a, C, dx, _, _, rfl, s1 _ _ h1, T.cl, T.nW, lf_works _ _ _, .int i, rfl, i, 1, rfl, rfl, (i : Int) + 1, rfl, t, xs, rfl, Same.tup s1 hS, w2, fun p2 np2 => ?_⟩
    have s2 : Same H1 (upd H1 p2 (.tup (cutV xs (some ((i : Int) + 1)) none))) := same_new np2
    have hp2 : (upd H1 p2 (.tup (cutV xs (some ((i : Int) + 1)) none))) p2 = some (.tup (xs.drop (i + 1))) := by rw [upd_same, e1, cut_from]
    generalize hH2 : upd H1 p2 (.tup (cutV xs (some ((i : Int) + 1)) none)) = H2 at s2 hp2 ⊢
    have hp1' := s2 _ _ hp1
    have s12 := s1.trans s2
    have tt : TpAll K H (xs.take i ++ xs.drop (i + 1)) (tDs (ws.take i ++ ws.drop (i + 1))) := by
      have z := (hT.cut i).add (hT.off (i + 1))
      rw [← List.map_take, ← List.map_drop, ← List.map_append] at z
      exact z
    have fin : ∀ (H3 : Hp) (l : Addr), Same H H3 → SqT K H3 l (xs.take i ++ xs.drop (i + 1)) →
        ∃ a' xs', V.ref l = V.ref a' ∧ (SqT K H3 a' xs' ∨ SqL K H3 a' xs') ∧ ∀ z dz, H3 z = none → H3 dz = none → dz ≠ z → spInit K C (V.ref z :: xs') (upd (upd H3 dz (.own z)) z (.ins C dz [])) (fun v H2 => v = .non ∧ Q (.ref z) H2) E0 := by
      intro H3 l e3 hl
      refine ⟨l, _, rfl, .inl hl, make_line (ws := ws.take i ++ ws.drop (i + 1)) (tt.stay (.of e3)) (h5.less hi h2w) fun H' x e4 nx hLx => q H' x (e3.trans e4) (Same.free e3 nx) hLx⟩
    have len2 : (xs.take i).length + (xs.drop (i + 1)).length ≤ sizeLine := by
      rw [List.length_take, List.length_drop]
      exact Nat.le_of_lt (small1000 (by omega))
    refine ⟨p, p2, _, _, rfl, rfl, .of hp1', .of hp2, len2, (fun z => ?_), (fun _ z => ?_), (fun _ _ p3 np3 => ?_)⟩
    · refine ⟨.ref p2, rfl, fin H2 p2 s12 ?_⟩
      rw [z, List.nil_append]
      exact .of hp2
    · refine ⟨.ref p, rfl, fin H2 p s12 ?_⟩
      rw [z, List.append_nil]
      exact .of hp1'
    · exact ⟨.ref p3, rfl, fin _ p3 (s12.trans (same_new np3)) (.of upd_same)⟩
/-! ### -line -/
def spNeg (K : PySem.W.Frag) (C : Addr) : Sp := fun vs H Q _ => ∃ (a : Addr) (ws : List (List Int)), vs = [.ref a] ∧ LineAt K C H a ws ∧
  ∀ H' x, Same H H' → H x = none → LineAt K C H' x (ws.map List.reverse) → Q (.ref x) H'
theorem ok_neg {f f1 C : Addr} {fd : FuncData} {k : Nat} (F : Fun K "__neg__" "Line.__neg__" s_Line_neg f fd) (T : LC K mg C) (M : Mk K C f1) (G : FnR P w K mg base CX0 k f1 (spInit K C)) :
    FnOk P w K mg base CX0 (k + 2) f fd ["self"] (spNeg K C) := by
  refine F.ok sc_Line_neg (fun vs H Q E h => ?_) (fun cdv A outer s H vs Q E hr h => ?_)
  · obtain ⟨a, ws, rfl, _⟩ := h; rfl
  · obtain ⟨a, ws, rfl, hL, q⟩ := h
    refine ⟨_, pss_cons (ps_setLc (i := 1) (own := [("work", 2)]) (g := gName 2) (tt := tYes) rfl sc_Line_neg.nd rfl rfl (sw_true rfl rfl rfl (by decide +kernel)) (pi_tup (pe_fld (pv 0) rfl))
          (blkOk_by (N := ["self", "works", "work"]) (sc := defScope s_Line_neg) (by decide +kernel))
          (fun _ _ _ _ _ => pg_name (i := 2) sc_Line_neg.nd rfl (Or.inl rfl)) (fun _ _ _ _ _ => pts_nil) (fun _ _ _ _ _ => pe_revT (K := K) rfl (pv 2)))
      (pss_one (ps_ret (pe_makeS M G hr (by rfl) T.mgC pass0 (pv 1)))), ?_⟩
    obtain ⟨dx, t, b1, r, h1, h2, h3, h4, h5⟩ := id hL
    obtain ⟨_, xs, e, hS, hT⟩ := h2.toTup
    cases e
    have l1 := hT.len
    rw [List.length_map] at l1
    have few := h5.few
    have lz : (tDs (ws.map List.reverse)).length ≤ 1000 := by rw [List.length_map, List.length_map]; omega
    refine ⟨.ref a, rfl, a, C, dx, _, _, rfl, h1, T.cl, T.nW, lf_works _ _ _, t, rfl, ⟨_, hS⟩, fun D hD => ?_⟩
    refine lc_tup (xs := xs) (fun i H' => Grow K H D (tDs (ws.map List.reverse)) i H') (.zero hD) (fun i H' _ h => Same.tup h.1 hS) (fun i x H' hx h => ?_) (fun H' h => ?_)
    · obtain ⟨o, c1, ho, rfl, hc1⟩ := hT.works hx
      refine ⟨rfl, .ref c1, rfl, c1, _, rfl, Same.tup h.1 hc1, fun p np => ?_⟩
      refine h.next hD lz (same_new np) (d := tD o.reverse) (by rw [List.getElem?_map, List.getElem?_map, ho]; rfl) (.ofInts ?_)
      rw [List.map_reverse]
      exact .of upd_same
    · obtain ⟨e2, acc, g1, g2⟩ := h.done (by rw [List.length_map, List.length_map, l1])
      exact ⟨.ref D, rfl, D, acc, rfl, .inr (.of g1), make_line (ws := ws.map List.reverse) g2 h5.back fun H3 x e3 nx hLx => q H3 x (e2.trans e3) (Same.free e2 nx) hLx⟩
end
end Sg
set_option Elab.async false
set_option linter.all false
set_option maxRecDepth 100000
set_option maxHeartbeats 4000000
namespace Sg
open PySem PySem.Spec PyProof.Rows L2 StX
/-- what a class has under a name: a def that keeps sp -/
structure Has (P : Program) (w : World) (K : PySem.W.Frag) (mg : Str → Option Value) (base : Heap) (k : Nat) (C : Addr) (n : Str) (f : Addr) (fd : FuncData) (ps : List Str) (sp : Sp) : Prop where
  ok : FnOk P w K mg base CX0 k f fd ps sp
  bi : Binds K fd ps []
  at_ : PySem.W.findIn K (.ref C) n = some (some (.ref f))
  fn : PySem.W.isFn K (.ref f) = true
/-- what the operators ask of the class beside their defs -/
structure Ops (K : PySem.W.Frag) (C : Addr) : Prop where
  sf : PySem.W.selfFirst K C = true
  rs : ∃ rc, PySem.W.findIn K (.ref C) "__rsub__" = some rc ∧ (rc = none ∨ ∃ g : Addr, rc = some (.ref g))
  is : ∃ fo, PySem.W.findIn K (.type "int") "__sub__" = some fo
  ir : ∃ ro, PySem.W.findIn K (.type "int") "__rsub__" = some ro
  nsub : PySem.W.subIn K (.type "int") (.ref C) = some false
  ne : PySem.W.findIn K (.ref C) "__ne__" = some (some (.builtin "object.__ne__"))
  ob : PySem.W.subIn K (.ref C) (.type "object") = some true
/-- Line's methods, as they are promised -/
structure Meths (P : Program) (w : World) (K : PySem.W.Frag) (mg : Str → Option Value) (base : Heap) (k : Nat) (C : Addr) : Prop where
  lc : LC K mg C
  li : LI K C
  op : Ops K C
  len : ∃ f fd, Has P w K mg base k C "__len__" f fd ["self"] (spLen K C)
  call : ∃ f fd, Has P w K mg base k C "__call__" f fd ["self", "one", "other"] (spCall K C) ∧ PySem.W.fnIn K f = true
  add : ∃ f fd, Has P w K mg base k C "__add__" f fd ["self", "other"] (spAdd K C)
  sub : ∃ f fd, Has P w K mg base k C "__sub__" f fd ["self", "other"] (spSub K C)
  neg : ∃ f fd, Has P w K mg base k C "__neg__" f fd ["self"] (spNeg K C)
  eq : ∃ f fd, Has P w K mg base k C "__eq__" f fd ["self", "other"] (spEq K C)
  works : ∃ p g fd, PropOf K C "works" p g ∧ FnOk P w K mg base CX0 k g fd ["self"] (getSp C "_works") ∧ Binds K fd ["self"] []
  init : ∃ f, Mk K C f ∧ FnR P w K mg base CX0 k f (spInit K C)
section
variable {X : Cx} {k : Nat} {C : Addr}
theorem Meths.cLen (M : Meths X.prog X.w X.K X.mg X.base k C) (hr : Room (k + 2) X.A) : CallR X (.builtin "len") (fun xs H Q => ∃ a ws, xs = [.ref a] ∧ LineAt X.K C H a ws ∧ Q (.int (ws.length : Nat)) H) := by
  obtain ⟨f, fd, h⟩ := M.len
  intro pins s σ H xs us Q I r q
  obtain ⟨a, ws, rfl, hL, q⟩ := q
  refine call_lenO h.ok (hr.mono (Nat.le_succ _)) h.bi h.at_ h.fn pins s σ H _ us Q I r ⟨a, rfl, hL.ins, a, ws, rfl, hL, ws.length, rfl, ?_, q⟩
  have := hL.good.few
  omega
theorem Meths.oEq (M : Meths X.prog X.w X.K X.mg X.base k C) (hr : Room (k + 2) X.A) : OpR X (compareOp .Eq) (fun x y H Q => ∃ a b ws us, x = .ref a ∧ y = .ref b ∧ LineAt X.K C H a ws ∧ LineAt X.K C H b us ∧ Q (.bl (decide (ws = us))) H) := by
  obtain ⟨f, fd, h⟩ := M.eq
  intro pins s σ H x y v u Q I rx ry q
  obtain ⟨a, b, ws, us, rfl, rfl, h1, h2, q⟩ := q
  exact op_ownEq h.ok (hr.mono (Nat.le_add_right _ _)) h.bi h.at_ h.fn pins s σ H _ _ v u Q I rx ry ⟨a, b, rfl, rfl, h1.ins, h2.ins, a, b, ws, us, rfl, h1, h2, q⟩
theorem Meths.oNe (M : Meths X.prog X.w X.K X.mg X.base k C) (hr : Room (k + 2) X.A) : OpR X (compareOp .NotEq) (fun x y H Q => ∃ a b ws us, x = .ref a ∧ y = .ref b ∧ LineAt X.K C H a ws ∧ LineAt X.K C H b us ∧ Q (.bl (!decide (ws = us))) H) := by
  obtain ⟨f, fd, h⟩ := M.eq
  intro pins s σ H x y v u Q I rx ry q
  obtain ⟨a, b, ws, us, rfl, rfl, h1, h2, q⟩ := q
  exact op_ownNe h.ok hr h.bi h.at_ h.fn M.op.ne M.op.ob pins s σ H _ _ v u Q I rx ry ⟨a, b, rfl, rfl, h1.ins, h2.ins, a, b, ws, us, rfl, h1, h2, _, rfl, q⟩
def tCallL (K : PySem.W.Frag) (C : Addr) (tf : TE) (t : TA) : TE := fun σ H Q => tf σ H fun y H1 => ∃ a, y = V.ref a ∧ t σ H1 fun vs H2 => ∃ ws, ∃ i j : Nat, ∃ x y, vs = [.int i, .int j] ∧ LineAt K C H2 a ws ∧ ws[i]? = some x ∧ ws[j]? = some y ∧
  ∀ c, SqT K H2 c (nV (barsN x y)) → Q (.ref c) H2
theorem Meths.pCall {K : PySem.W.Frag} {fe e : Expr} {es : List Expr} {tf : TE} {t : TA} {pos : Pos} (M : Meths X.prog X.w K X.mg X.base k C) (hK : X.K = K) (hr : Room (k + 2) X.A) (hf : PE X fe tf) (ha : PA X (e :: es) t)
    (ht : eval (.Call fe (e :: es) [] pos) X.env = (do callWith pos (← eval fe X.env) [] (backTo pos (starEach (e :: es) X.env)) (backToKw pos (keywordEach [] X.env))) := by rfl)
    (he : starEach (e :: es) X.env = (false, eval e X.env) :: starEach es X.env := by rfl) (hpl : (backTo pos (starEach es X.env)).any (·.1) = false := by rfl) :
    PE X (.Call fe (e :: es) [] pos) (tCallL K C tf t) := by
  subst hK
  obtain ⟨g, fd, h, hg⟩ := M.call
  have c : CallO X.K C g := ⟨h.at_, h.fn, hg⟩
  refine ⟨fun pins s σ H Q I h' => Call_ (thn (hf.run pins s σ H _ I h') fun u s1 ⟨y, H1, I1, ry, a, ey, q⟩ => ?_) ht⟩
  subst ey
  obtain rfl : u = Value.ref a := ry
  refine callO_with (thn (ha.run pos pins s1 σ H1 _ I1 q) fun us s2 ⟨vs, H2, I2, r, ws, i, j, x, y, ev, hL, hx, hy, q2⟩ => ?_) he hpl
  subst ev
  have hi' : InsC X H2 a C := .inr hL.ins
  obtain ⟨ox, od, J, hd⟩ := insC_at I2 hi'
  exact ⟨⟨C, ox, od, J, hd⟩, run_callO c (fnR_of h.ok h.bi) (hr.mono (Nat.le_add_right _ _)) pass0 I2 hi' r ⟨a, ws, i, j, x, y, rfl, hL, hx, hy, q2⟩⟩
/-- Line(e, ..) -/
def tNewL (K : PySem.W.Frag) (C : Addr) (t : TA) : TE := fun σ H Q => t σ H fun vs H1 => ∃ ws, TpAll K H1 vs (tDs ws) ∧ GoodL ws ∧ ∀ H' a, Same H1 H' → H1 a = none → LineAt K C H' a ws → Q (.ref a) H'
theorem Meths.pNew {K : PySem.W.Frag} {e : Expr} {es : List Expr} {t : TA} {p pos : Pos} (M : Meths X.prog X.w K X.mg X.base k C) (hK : X.K = K) (hr : Room (k + 2) X.A) (hg : Gl X "Line") (ha : PA X (e :: es) t)
    (he : starEach (e :: es) X.env = (false, eval e X.env) :: starEach es X.env := by rfl) (hpl : (backTo pos (starEach es X.env)).any (·.1) = false := by rfl) : PE X (.Call (.Name "Line" p) (e :: es) [] pos) (tNewL K C t) := by
  subst hK
  obtain ⟨f, m, h⟩ := M.init
  refine ⟨fun pins s σ H Q I h' => ?_⟩
  refine wpAny_Call_Name_kw (ld_glob I hg M.lc.mgC ?_ (by decide))
  refine PySem.W.callWith_K (h₀ := X.base) I.ok.mod.kin m.kp (thn (ha.run pos pins s σ H _ I h') fun us s1 ⟨vs, H1, I1, r, ws, hT, hgd, q⟩ => ⟨I1.kIn, ?_⟩) he hpl
  exact run_makeR m h (hr.mono (Nat.le_succ _)) pass0 I1 r (make_line hT hgd q)
end
end Sg
set_option Elab.async false
set_option linter.all false
set_option maxRecDepth 100000
set_option maxHeartbeats 4000000
namespace Sg
open PySem PySem.Spec PyProof.Rows L2 StX
/-- a whole number as it is written -/
def num (i : Int) : Str := toString i
def word (n : Nat) : Str := (("Line(" : Str) ++ num n) ++ (" works)" : Str)
section
variable {P : Program} {w : World} {K : PySem.W.Frag} {mg : Str → Option Value} {base : Heap}
/-! ### line[kind] -/
def spItem (K : PySem.W.Frag) (C : Addr) : Sp := fun vs H Q _ => ∃ (a : Addr) (ws : List (List Int)) (i : Nat) (x : List Int), vs = [.ref a, .int i] ∧ LineAt K C H a ws ∧ ws[i]? = some x ∧ ∀ c, SqT K H c (x.map V.int) → Q (.ref c) H
theorem ok_item {f f1 C : Addr} {fd fd1 : FuncData} {k : Nat} (F : Fun K "__getitem__" "Line.__getitem__" s_Line_getitem f fd) (T : LC K mg C)
    (G1 : FnOk P w K mg base CX0 k f1 fd1 ["line", "thing"] (spReqKind K C)) (kp1 : PySem.W.keepIn K (.ref f1) = true) (b1 : Binds K fd1 ["line", "thing"] []) (g1 : mg "require_kind" = some (.ref f1)) :
    FnOk P w K mg base CX0 (k + 1) f fd ["self", "at"] (spItem K C) := by
  refine F.ok sc_Line_getitem (fun vs H Q E h => ?_) (fun cdv A outer s H vs Q E hr h => ?_)
  · obtain ⟨a, ws, i, x, rfl, _⟩ := h; rfl
  · obtain ⟨a, ws, i, x, rfl, hL, hx, q⟩ := h
    refine ⟨_, pss_cons (ps_expr (pe_call G1 hr (by rfl) g1 kp1 b1 .nil pass0 (pa_cons (pv 0) (pa_cons (pv 1) pa_nil))))
      (pss_one (ps_ret (pe_ix ix_tup (pe_fld (pv 0) rfl) (pv 1) (fun _ _ => rfl)))), ?_⟩
    have hi := (List.getElem?_eq_some_iff.mp hx).1
    refine ⟨.ref a, rfl, .int i, rfl, a, ws, i, rfl, hL, hi, ?_⟩
    obtain ⟨dx, t, b, r, h1, h2, h3, h4, h5⟩ := hL
    obtain ⟨_, xs, e, hS, hT⟩ := h2.toTup
    cases e
    have l := hT.len
    rw [List.length_map] at l
    obtain ⟨y, hy⟩ : ∃ y, xs[i]? = some y := ⟨xs[i]'(by omega), List.getElem?_eq_getElem _⟩
    obtain ⟨x', c, hx', rfl, hc⟩ := hT.works hy
    obtain rfl : x = x' := Option.some.inj (hx.symm.trans hx')
    exact ⟨.ref a, rfl, a, C, dx, _, _, rfl, h1, T.cl, T.nW, lf_works _ _ _, .int i, rfl, t, xs, i, .ref c, rfl, rfl, hS, atI_nat hy, q c hc⟩
/-! ### repr -/
def spRepr (K : PySem.W.Frag) (C : Addr) : Sp := fun vs H Q _ => ∃ (a : Addr) (ws : List (List Int)), vs = [.ref a] ∧ LineAt K C H a ws ∧ Q (.str (word ws.length)) H
theorem word_join (n : Nat) (h1 : 1 ≤ n) (h2 : n ≤ 3) : ((Str.empty ++ ("Line(" : Str)) ++ num n) ++ (" works)" : Str) = word n := by
  have : n = 1 ∨ n = 2 ∨ n = 3 := by omega
  rcases this with rfl | rfl | rfl <;> decide +kernel
theorem num_len (n : Nat) (h1 : 1 ≤ n) (h2 : n ≤ 3) : ((Str.empty ++ ("Line(" : Str)) ++ num n).length ≤ 100 ∧ (((Str.empty ++ ("Line(" : Str)) ++ num n) ++ (" works)" : Str)).length ≤ 100 := by
  have : n = 1 ∨ n = 2 ∨ n = 3 := by omega
  rcases this with rfl | rfl | rfl <;> decide +kernel
theorem log_small (n : Nat) (h2 : n ≤ 3) : ((n : Int)).natAbs.log2 < 1920 := by
  have : n = 0 ∨ n = 1 ∨ n = 2 ∨ n = 3 := by omega
  rcases this with rfl | rfl | rfl | rfl <;> decide +kernel
theorem ok_repr {f C : Addr} {fd : FuncData} {k : Nat} (F : Fun K "__repr__" "Line.__repr__" s_Line_repr f fd) (T : LC K mg C) (m1 : mg "len" = none) :
    FnOk P w K mg base CX0 (k + 1) f fd ["self"] (spRepr K C) := by
  refine F.ok sc_Line_repr (fun vs H Q E h => ?_) (fun cdv A outer s H vs Q E hr h => ?_)
  · obtain ⟨a, ws, rfl, _⟩ := h; rfl
  · obtain ⟨a, ws, rfl, ⟨dx, t, b, r, h1, h2, h3, h4, h5⟩, q⟩ := h
    refine ⟨_, pss_one (ps_ret (pe_joined (.cons pe_str (.cons (pe_fmt (pe_callB call_len_seq (by rfl) m1 PySem.boot_len (pa_cons (pe_fld (pv 0) rfl) pa_nil))) (.cons pe_str .nil))))), ?_⟩
    obtain ⟨t', xs, e, hS, hT⟩ := h2.toTup
    cases e
    have l := hT.len
    rw [List.length_map] at l
    have big : 100 ≤ sizeLine := by rw [sizeLine_eq]; decide
    obtain ⟨z1, z2⟩ := num_len ws.length h5.least h5.few
    refine ⟨_, rfl, Nat.le_trans (by decide +kernel) big, ?_⟩
    refine ⟨.ref a, rfl, a, C, dx, _, _, rfl, h1, T.cl, T.nW, lf_works _ _ _, t, xs, rfl, .inr hS, ?_⟩
    rw [l]
    refine .inr ⟨((ws.length : Nat) : Int), rfl, log_small _ h5.few, ?_⟩
    refine ⟨_, rfl, Nat.le_trans z1 big, ?_⟩
    refine ⟨_, rfl, Nat.le_trans z2 big, ?_⟩
    have e := word_join ws.length h5.least h5.few
    show Q (.str (((Str.empty ++ ("Line(" : Str)) ++ num ws.length) ++ (" works)" : Str))) H
    rw [e]
    exact q
end
/-- the two more -/
structure Meths2 (P : Program) (w : World) (K : PySem.W.Frag) (mg : Str → Option Value) (base : Heap) (k : Nat) (C : Addr) : Prop where
  m : Meths P w K mg base k C
  item : ∃ f fd, Has P w K mg base k C "__getitem__" f fd ["self", "at"] (spItem K C) ∧ PySem.W.fnIn K f = true
  rep : ∃ f fd, Has P w K mg base k C "__repr__" f fd ["self"] (spRepr K C)
section
variable {X : Cx} {k : Nat} {C : Addr}
theorem Meths2.cRepr (M : Meths2 X.prog X.w X.K X.mg X.base k C) (hr : Room (k + 2) X.A) : CallR X (.builtin "repr") (fun xs H Q => ∃ a ws, xs = [.ref a] ∧ LineAt X.K C H a ws ∧ Q (.str (word ws.length)) H) := by
  obtain ⟨f, fd, h⟩ := M.rep
  intro pins s σ H xs us Q I r q
  obtain ⟨a, ws, rfl, hL, q⟩ := q
  obtain ⟨u, rfl, rfl⟩ := vals1 r
  obtain ⟨m, hF⟩ := I.fr
  obtain ⟨_, _, J⟩ := insAt_look I hL.ins
  refine PySem.W.repr_K (show X.A.in1.units < cLine from (hr.mono (show k + 1 ≤ k + 2 by omega)).in1.units0) hF I.ok.mod.kin J h.at_ h.fn (thn (run_in1 (Q := fun v H' => v = .str (word ws.length) ∧ Q (.str (word ws.length)) H') (us := [.ref a]) (vs := [.ref a]) h.ok (hr.mono (Nat.le_succ _)) h.bi I (.cons rfl .nil) ⟨a, ws, rfl, hL, rfl, q⟩) ?_)
  rintro v s' ⟨x, H', I', rx, rfl, q'⟩
  obtain ⟨t, rfl⟩ := rx
  exact ⟨.str _, H', I', ⟨_, rfl⟩, q'⟩
def tItem (K : PySem.W.Frag) (C : Addr) (ta tb : TE) : TE := fun σ H Q => ta σ H fun y H1 => tb σ H1 fun z H2 => ∃ a ws, ∃ i : Nat, ∃ x, y = .ref a ∧ z = .int i ∧ LineAt K C H2 a ws ∧ ws[i]? = some x ∧ ∀ c, SqT K H2 c (x.map V.int) → Q (.ref c) H2
theorem Meths2.pItem {K : PySem.W.Frag} {a b : Expr} {ta tb : TE} {pos : Pos} (M : Meths2 X.prog X.w K X.mg X.base k C) (hK : X.K = K) (hr : Room (k + 2) X.A) (ha : PE X a ta) (hb : PE X b tb)
    (hsl : ∀ x i, subscripted b true (.ref x) i = runValue (.builtin "lifetime.subscript" ⟨[.ref x, i], []⟩) := by intro _ _; rfl) : PE X (.Subscript a b pos) (tItem K C ta tb) := by
  subst hK
  obtain ⟨f, fd, h, hf⟩ := M.item
  refine ⟨fun pins s σ H Q I h' => Subscript_ (binT ha hb I h' fun v u s2 x y H2 I2 rx ry q => ?_)⟩
  obtain ⟨o, ws, i, z, rfl, rfl, hL, hz, q⟩ := q
  obtain rfl : v = Value.ref o := rx
  obtain ⟨m, hF⟩ := I2.fr
  obtain ⟨_, _, J⟩ := insAt_look I2 hL.ins
  exact PySem.W.sub_K hF I2.ok.mod.kin J h.at_ hf h.fn (run_in1 (us := [.ref o, u]) (vs := [.ref o, .int i]) h.ok (hr.mono (Nat.le_succ _)) h.bi I2 (.cons rfl (.cons ry .nil)) ⟨o, ws, i, z, rfl, hL, hz, q⟩) (hsl _ _)
end
end Sg
set_option Elab.async false
set_option linter.all false
set_option maxRecDepth 100000
set_option maxHeartbeats 4000000
namespace Sg
open PySem PySem.Spec PyProof.Rows L2 StX
/-! ## a text of an own thing, asked for within another text -/
theorem boundBy_own {M : Model} {A : Around} {E : Value → Shared → Prop} {s : Shared} {K : PySem.W.Frag} {x C f : Addr} {ox : Obj} {od : Option Obj} {name : Str} {last : Value → List Value → Sem Value} {Q : Option Value → Shared → Prop} (X : K.In s.heap) (I : PySem.W.InstAt s.heap x ox C od)
    (hs : PySem.W.findIn K (.ref C) name = some (some (.ref f))) (hf : PySem.W.isFn K (.ref f) = true)
    (h : wpAny M A (last (.ref f) [.ref x]) (fun v => Q (some v)) E s) : wpAny M A (callSpecialIfBoundBy? last (.ref x) name) Q E s := by
  simp only [callSpecialIfBoundBy?, bindSpecialIfBound?]
  refine wpAny_holding (wpAny_bind (wpAny_bind (wpAny_bind (I.type.here ((PySem.W.looks_findIn X hs).here ?_)))))
  refine wpAny_bind (wpAny_askSetting (wpAny_ite ?_))
  have fin : wpAny M A (last (.ref f) [.ref x] >>= fun v => pure (some v)) Q E s := wpAny_bind (wpAny_mono h (fun v s' h' => wpAny_pure h') fun _ _ h' => h')
  split
  · exact wpAny_bind ((PySem.W.bind_fn X _ (beq_iff_eq.mp hf)).here (wpAny_pure (by exact fin)))
  · exact wpAny_tryCatch (wpAny_bind ((PySem.W.bind_fn X _ (beq_iff_eq.mp hf)).here (wpAny_pure (by exact fin))))
theorem reprUnder_own {prog : Program} {w : World} {A : Around} {E : Value → Shared → Prop} {s : Shared} {K : PySem.W.Frag} {x C f : Addr} {ox : Obj} {od : Option Obj} {b : Nat} {t : Str} {Q : Str → Shared → Prop} (hb : b ≤ sizeLine) (hu : A.units < cLine) (X : K.In s.heap) (I : PySem.W.InstAt s.heap x ox C od)
    (hs : PySem.W.findIn K (.ref C) "__repr__" = some (some (.ref f))) (hf : PySem.W.isFn K (.ref f) = true)
    (h : wpAny (model prog w) A (call (.ref f) [.ref x]) (fun v s' => ∃ u, v = .str t u ∧ Q t s') E s) : wpAny (model prog w) A (pyReprUnder b (.ref x)) Q E s := by
  refine wpAny_pyReprUnder_ref hb ?_
  unfold pyReprObjUnder pyReprObjBy
  refine wpAny_bind (wpAny_cRoomFor hu ?_)
  refine wpAny_bind (wpAny_bind (I.type.here ((PySem.W.looks_findIn X hs).here ?_)))
  show wpAny _ _ (if (some (Value.ref f)).isNone = true then _ else _) _ _ _
  rw [if_neg (by simp)]
  refine wpAny_bind (boundBy_own X I hs hf ?_)
  refine wpAny_mono h (fun v s' ⟨u, e, q⟩ => ?_) fun _ _ y => y
  subst e
  refine wpAny_bind (wpAny_isInstance (typeIs_str _ _ _) isSubtype_str_str ?_)
  exact wpAny_pure ⟨t, u, rfl, q⟩
end Sg
set_option Elab.async false
set_option linter.all false
set_option maxRecDepth 100000
set_option maxHeartbeats 4000000
namespace Sg
open PySem PySem.Spec PyProof.Rows L2 StX
/-! ## within the text of a container: the frames are the same -/
structure Near (A A' : Around) (m : Nat) : Prop where
  hd : A'.handled = A.handled
  fr : A'.frames = A.frames
  dp : A'.depth ≤ A.depth + m
  un : A'.units ≤ A.units + m
theorem Near.refl (A : Around) : Near A A 0 := ⟨rfl, rfl, Nat.le_refl _, Nat.le_refl _⟩
theorem Near.le {A A' : Around} {m n : Nat} (h : Near A A' m) (e : m ≤ n) : Near A A' n := ⟨h.hd, h.fr, by have := h.dp; omega, by have := h.un; omega⟩
theorem Near.in1 {A A' : Around} {m : Nat} (h : Near A A' m) : Near A A'.in1 (m + 1) := ⟨h.hd, h.fr, by have := h.dp; show A'.depth ≤ _; omega, by have := h.un; show A'.units + 1 ≤ _; omega⟩
theorem Near.room {A A' : Around} {m k : Nat} (h : Near A A' m) (r : Room (k + 1) A) (hm : m ≤ 3) : Room k A' := by
  have h1 := r.dp; have h2 := r.un; have h3 := h.un; have h4 := h.dp
  exact ⟨h.hd.trans r.hd, by omega, by omega⟩
/-- the thing v shows as t, whatever texts are under way -/
def Rep (X : Cx) (pins : List (Addr × Obj)) (σ : L2.St) (H : Hp) (A : Around) (v : V) (t : Str) : Prop :=
  ∀ (b : Nat) (u : Value) (s : Shared) (E : Value → Shared → Prop) (Q : Str → Shared → Prop), b + t.length ≤ sizeLine → Inv X pins σ H s → RelV v u → (∀ s', Inv X pins σ H s' → Q t s') → wpAny (model X.prog X.w) A (pyReprUnder b u) Q E s
inductive Reps (X : Cx) (pins : List (Addr × Obj)) (σ : L2.St) (H : Hp) (A : Around) : List V → List Str → Prop
  | nil : Reps X pins σ H A [] []
  | cons {v : V} {t : Str} {vs : List V} {ts : List Str} : Rep X pins σ H A v t → Reps X pins σ H A vs ts → Reps X pins σ H A (v :: vs) (t :: ts)
section
variable {X : Cx} {pins : List (Addr × Obj)} {σ : L2.St} {H : Hp} {A : Around}
theorem Reps.len : ∀ {vs : List V} {ts : List Str}, Reps X pins σ H A vs ts → ts.length = vs.length
  | _, _, .nil => rfl
  | _, _, .cons _ r => congrArg (· + 1) r.len
theorem Rep.int {i : Int} (h : i.natAbs.log2 < 1920) : Rep X pins σ H A (.int i) (PyData.int i).shown := by
  intro b u s E Q hb I r q
  obtain ⟨t, rfl⟩ := r
  have e : (PyData.int i).shown = ((toString i : String) : Str) := PyData.shown_int i
  rw [e] at hb q
  exact ReprIs.int t h b hb A E s _ fun tk => q _ (I.tok tk)
/-- a Line -/
theorem Rep.line {k m : Nat} {C a : Addr} {ws : List (List Int)} (M : Meths2 X.prog X.w X.K X.mg X.base k C) (hr : Room (k + 1) X.A) (N : Near X.A A m) (hm : m ≤ 3) (hL : LineAt X.K C H a ws) : Rep X pins σ H A (.ref a) (word ws.length) := by
  intro b u s E Q hb I r q
  obtain rfl : u = Value.ref a := r
  obtain ⟨f, fd, h⟩ := M.rep
  obtain ⟨_, _, J⟩ := insAt_look I hL.ins
  have hr' := N.room hr hm
  refine reprUnder_own (t := word ws.length) (by omega) hr'.units0 I.kIn J h.at_ h.fn ?_
  have hl : ([Value.ref a] ++ []).length = ["self"].length := rfl
  have hbb := h.bi s [.ref a] I.kIn rfl
  rw [List.append_nil] at hbb
  have e0 : Env0 X.prog X.w X.K X.mg X.base A X.stack s H := by
    have e := I.env0
    exact ⟨N.fr.trans e.frames, e.mod, e.bs, e.bsz, e.funs, e.frf, e.hok, e.bare⟩
  refine wpAny_call (codeAny_mono (h.ok.run A X.stack s H ⟨[.ref a], []⟩ [.ref a] [.ref a] (fun v H' => v = .str (word ws.length) ∧ H' = H) E0 hr' e0 hbb (.cons rfl .nil) ⟨a, ws, rfl, hL, rfl, rfl⟩) ?_)
  intro r' s' hq
  match r', hq with
  | .error _, hq => exact hq.elim
  | .ok (.ret _), hq =>
    obtain ⟨v, H', I', rv, rfl, rfl⟩ := I.after hq
    obtain ⟨u', rfl⟩ := rv
    exact ⟨u', rfl, q _ I'⟩
  | .ok .next, hq => exact hq.elim
  | .ok .brk, hq => exact hq.elim
  | .ok .cont, hq => exact hq.elim
/-- the items, one after another -/
theorem reps_fold {E : Value → Shared → Prop} : ∀ {vs : List V} {ts : List Str}, Reps X pins σ H A vs ts → ∀ {us : List Value}, Vals vs us → ∀ (acc : Array Str) (n : Nat) (s : Shared) (Q : (Array Str × Nat) → Shared → Prop), Inv X pins σ H s → n + piled ts ≤ sizeLine →
    (∀ s', Inv X pins σ H s' → Q ⟨acc ++ ts.toArray, n + piled ts⟩ s') → wpAny (model X.prog X.w) A (forIn us (⟨acc, n⟩ : (Array Str × Nat)) tupBody) Q E s := by
  intro vs ts h
  induction h with
  | nil =>
    intro us r acc n s Q I _ q
    cases r
    have h0 := q s I
    simp only [List.forIn_nil]
    exact wpAny_pure (by simpa [piled] using h0)
  | @cons v t vs ts hv _ ih =>
    intro us r acc n s Q I hn q
    cases r with
    | @cons a b as bs r1 r2 =>
      rw [piled_cons] at hn
      rw [List.forIn_cons]
      refine wpAny_bind (wpAny_bind (hv (n + 1) _ s _ _ (by omega) I r1 fun s1 I1 => wpAny_pure ?_))
      refine ih r2 (acc.push t) (n + (t.length + 2)) s1 _ I1 (by omega) fun s2 I2 => ?_
      have h1 := q s2 I2
      have e : n + piled (t :: ts) = n + (t.length + 2) + piled ts := by rw [piled_cons]; omega
      rw [e] at h1
      simpa using h1
end
end Sg
set_option Elab.async false
set_option linter.all false
set_option maxRecDepth 100000
set_option maxHeartbeats 4000000
namespace Sg
open PySem PySem.Spec PyProof.Rows L2 StX
section
variable {X : Cx} {pins : List (Addr × Obj)} {σ : L2.St} {H : Hp} {A : Around}
/-- the text of a tuple whose items show: its own code -/
theorem tupShow_own {a : Addr} {xs : List V} {ts : List Str} {g : List Code} {s : Shared} {R : Result → Shared → Prop} {base : Nat} {id : String} {rest : List Value} (I : Inv X pins σ H s) (hs : SqT X.K H a xs)
    (hT : Reps X pins σ H (A.under (.builtin id ⟨.ref a :: rest, []⟩)) xs ts) (hg : A.guards = some g) (hca : Clear g a)
    (hR : ∀ s' u, Inv X pins σ H s' → R (.ok (.ret (.str (tupleText ts) u))) s') (hsz : base + (tupleText ts).length ≤ sizeLine) :
    wpOwn (model X.prog X.w) A (.builtin id ⟨.ref a :: rest, []⟩) (Builtin.tupleReprAt base ⟨[.ref a], []⟩) (fun fin s' => match fin with | .done f => R (.ok f) s' | .again c' => c'.quiet = true ∧ codeAny (model X.prog X.w) A c' R s') (fun e s' => R (.error e) s') s := by
  obtain ⟨its, rv, ⟨o, ho, hc, n, hd⟩, hz⟩ := I.tuple hs
  have ln : ts.length = its.toArray.size := by rw [hT.len, rv.length, List.size_toArray]
  have pl := piled_le_tupleText ts
  have z0 : (tupleText ts).length ≤ sizeLine := by omega
  rw [tuple_repr_tree, tupleReprUnderWay_eq]
  have none_ : (g.any fun c => tupGuardF (.ref a) (c, default)) = false := List.any_eq_false.mpr fun c hcm => by rw [tupGuardF_of_clear hca c hcm]; exact Bool.false_ne_true
  refine wpOwn_bind (wpOwn_stackTailAny hg (tupGuardF_off _) (tupGuardF_pos _) ?_)
  rw [none_]
  refine wpOwn_of_wpAny (show wpAny _ _ (tupleReprRest base (.ref a)) _ _ s from ?_)
  unfold tupleReprRest Builtin.Tuple.tupleItemsOf
  refine wpAny_bind (wpAny_bind (wpAny_seqItems ho hd (wpAny_pure ?_)))
  rw [← Array.forIn_toList]
  refine wpAny_bind (reps_fold hT (us := its) rv _ _ _ _ I (by omega) fun s1 I1 => ?_)
  refine wpAny_bind (wpAny_mkStr (wpAny_pure ?_) (by simpa [tupleText, ln] using z0))
  have h1 := hR _ s1.toks (I1.tok (s1.toks + 1))
  simpa [tupleText, ln] using h1
/-- .. within another text -/
theorem Rep.tup {a : Addr} {xs : List V} {ts : List Str} {g : List Code} (hs : SqT X.K H a xs) (hT : ∀ rest, Reps X pins σ H (A.under (.builtin "tuple.__repr__.under" ⟨.ref a :: rest, []⟩)) xs ts) (hg : A.guards = some g) (hca : Clear g a) (hu : A.units + 1 < cLine) : Rep X pins σ H A (.ref a) (tupleText ts) := by
  intro b u s E Q hb I r q
  obtain rfl : u = Value.ref a := r
  obtain ⟨its, rv, ⟨o, ho, hc, n, hd⟩, hz⟩ := I.tuple hs
  refine wpAny_pyReprUnder_ref (by omega) ?_
  refine wpAny_pyReprObjUnder_twin (twin := "tuple.__repr__.under") ⟨o, ho, hc⟩ F.slot_tuple_repr rfl (by omega) ?_
  refine call_twin_own (F.quiet_tuple_repr_under _) F.entry_tuple_repr_under F.check_tuple_repr_under ⟨o, ho, hc⟩ F.slot_tuple_repr (F.args_tuple_repr_1 _) ?_
  exact tupShow_own I hs (hT _) hg hca (fun s' u I' => ⟨⟨_, _, rfl⟩, _, _, rfl, q s' I'⟩) hb
/-- repr(t) -/
theorem callRepr_tup {j : Nat} {a : Addr} {xs : List V} {ts : List Str} {s : Shared} {Q : VK} (hgd : X.A.guards = some []) (hr : Room j X.A) (I : Inv X pins σ H s) (hs : SqT X.K H a xs) (hT : Reps X pins σ H (X.A.in1.under (.builtin "tuple.__repr__" ⟨[.ref a], []⟩)) xs ts)
    (hz : (tupleText ts).length ≤ sizeLine) (q : Q (.str (tupleText ts)) H) : wpAny (model X.prog X.w) X.A (call (.builtin "repr") [.ref a]) (EP X pins σ Q) X.xe s := by
  obtain ⟨its, rv, ⟨o, ho, hc, n, hd⟩, _⟩ := I.tuple hs
  have hu := hr.un
  refine call_repr_slot (by omega) ⟨o, ho, hc⟩ F.slot_tuple_repr ?_
  refine wpAny_call (codeAny_call_builtin_own (Code.quiet_builtin _ (by decide +kernel)) F.entry_tuple_repr (F.slot_tuple_repr.check _ _ _ _ _ _ _ _ ⟨o, ho, hc⟩ (F.args_tuple_repr_1 _) ?_))
  exact tupShow_own (A := X.A.in1) (base := 0) (R := callEnd (fun v s' => ∃ x t, v = .str x t ∧ EP X pins σ Q v s') X.xe) I hs hT hgd (Clear.nil a) (fun s' u I' => ⟨_, _, rfl, .str (tupleText ts), H, I', ⟨_, rfl⟩, q⟩) (by omega)
end
end Sg
set_option Elab.async false
set_option linter.all false
set_option maxRecDepth 100000
set_option maxHeartbeats 4000000
namespace Sg
open PySem PySem.Spec PyProof.Rows L2 StX
theorem near_under {A A' : Around} {m : Nat} {id : String} {args : Args} (h : Near A A' m) (hg : (Code.builtin id args).weight = 1) (hu : (A'.under (.builtin id args)).units = A'.units + 1) : Near A (A'.under (.builtin id args)) (m + 1) := by
  refine ⟨h.hd, ?_, ?_, ?_⟩
  · have e : (Code.builtin id args).envs = [] := by simp [Code.envs, Code.isFrame]
    show pushEnvs (Code.builtin id args).envs A'.frames = A.frames
    rw [e]
    exact h.fr
  · show A'.depth + (Code.builtin id args).weight ≤ A.depth + (m + 1)
    rw [hg]
    have := h.dp
    omega
  · rw [hu]
    have := h.un
    omega
theorem weight_tuple (args : Args) : (Code.builtin "tuple.__repr__" args).weight = 1 := by
  unfold Code.weight
  rw [isGuard_tuple_repr]
  simp [Code.frames, Code.isCreation, Code.isCaller, Code.isFrame]
theorem weight_tuple_under (args : Args) : (Code.builtin "tuple.__repr__.under" args).weight = 1 := by
  unfold Code.weight
  rw [isGuard_tuple_repr_under]
  simp [Code.frames, Code.isCreation, Code.isCaller, Code.isFrame]
/-! ## repr(x), x data or a Line or a tuple with one -/
/-- ints and Lines -/
inductive IntLn (K : PySem.W.Frag) (C : Addr) (H : Hp) : List V → List Str → Prop
  | nil : IntLn K C H [] []
  | int {i : Int} {vs : List V} {ts : List Str} : i.natAbs.log2 < 1920 → IntLn K C H vs ts → IntLn K C H (.int i :: vs) ((PyData.int i).shown :: ts)
  | line {a : Addr} {ws : List (List Int)} {vs : List V} {ts : List Str} : LineAt K C H a ws → IntLn K C H vs ts → IntLn K C H (.ref a :: vs) (word ws.length :: ts)
theorem IntLn.reps {X : Cx} {pins : List (Addr × Obj)} {σ : L2.St} {H : Hp} {A : Around} {k m : Nat} {C : Addr} (M : Meths2 X.prog X.w X.K X.mg X.base k C) (hr : Room (k + 1) X.A) (N : Near X.A A m) (hm : m ≤ 3) :
    ∀ {vs : List V} {ts : List Str}, IntLn X.K C H vs ts → Reps X pins σ H A vs ts
  | _, _, .nil => .nil
  | _, _, .int h r => .cons (Rep.int h) (IntLn.reps M hr N hm r)
  | _, _, .line h r => .cons (Rep.line M hr N hm h) (IntLn.reps M hr N hm r)
/-- what shows as t -/
inductive ShowL (K : PySem.W.Frag) (C : Addr) (H : Hp) : V → Str → Prop
  | any {v : V} {d : PyData} : Aq K H v d → GoodD d → ShowL K C H v d.shown
  | line {a : Addr} {ws : List (List Int)} : LineAt K C H a ws → ShowL K C H (.ref a) (word ws.length)
  | tup {a : Addr} {xs : List V} {ts : List Str} : SqT K H a xs → IntLn K C H xs ts → (tupleText ts).length ≤ 1000 → ShowL K C H (.ref a) (tupleText ts)
  | nest {a b : Addr} {xs : List V} {ts : List Str} : SqT K H a [.ref b] → SqT K H b xs → IntLn K C H xs ts → a ≠ b → (tupleText ts).length ≤ 1000 → (tupleText [tupleText ts]).length ≤ 2000 → ShowL K C H (.ref a) (tupleText [tupleText ts])
theorem call_reprL {X : Cx} {k : Nat} {C : Addr} (M : Meths2 X.prog X.w X.K X.mg X.base k C) (hgd : X.A.guards = some []) (hr : Room (k + 2) X.A) :
    CallR X (.builtin "repr") (fun xs H Q => ∃ v t, xs = [v] ∧ ShowL X.K C H v t ∧ Q (.str t) H) := by
  have big : 2000 ≤ sizeLine := by rw [sizeLine_eq]; decide
  have hr1 : Room (k + 1) X.A := hr.mono (by omega)
  have N1 : ∀ args, Near X.A (X.A.in1.under (.builtin "tuple.__repr__" args)) 2 := fun args => near_under (Near.refl X.A).in1 (weight_tuple args) (units_under_tuple_repr _ _)
  intro pins s σ H xs us Q I r h
  obtain ⟨v, t, rfl, h, q⟩ := h
  cases h with
  | any hd hg => exact call_reprA hgd hr pins s σ H _ us Q I r ⟨v, _, rfl, hd, hg, q⟩
  | line hL => exact M.cRepr hr pins s σ H _ us Q I r ⟨_, _, rfl, hL, q⟩
  | tup hs hf hz =>
    obtain ⟨u, rfl, rx⟩ := vals1 r
    cases rx
    exact callRepr_tup hgd hr I hs (hf.reps M hr1 (N1 _) (by decide)) (by omega) q
  | @nest a b xs ts hs hs2 hf hne hz hz2 =>
    obtain ⟨u, rfl, rx⟩ := vals1 r
    cases rx
    refine callRepr_tup hgd hr I hs (.cons (Rep.tup hs2 (fun rest => hf.reps M hr1 (near_under (N1 _) (weight_tuple_under _) (units_under_tuple_repr_under _ _)) (by decide)) (guards_under_guard (isGuard_tuple_repr _) hgd) ((Clear.nil b).cons hne) ?_) .nil) (by omega) q
    have h1 := (N1 ⟨[.ref a], []⟩).un
    have h2 := hr.un
    omega
end Sg
set_option Elab.async false
set_option linter.all false
set_option maxRecDepth 100000
set_option maxHeartbeats 4000000
namespace Sg
open PySem PySem.Spec PyProof.Rows L2 StX
/-- data that is a work -/
def WorkD (d : PyData) : Prop := ∃ ns, d = tD ns ∧ IsWork ns
theorem all_ints : ∀ {ds : List PyData} {l m : Int}, (∀ d ∈ ds, betD d l m = true) → ∃ ns : List Int, ds = iD ns ∧ ∀ x ∈ ns, l ≤ x ∧ x ≤ m
  | [], _, _, _ => ⟨[], rfl, fun _ h => nomatch h⟩
  | d :: ds, l, m, h => by
    obtain ⟨ns, rfl, hn⟩ := all_ints (ds := ds) (l := l) (m := m) fun x hx => h x (List.mem_cons_of_mem _ hx)
    have h1 := h d List.mem_cons_self
    obtain ⟨i, rfl⟩ : ∃ i, d = .int i := by cases d <;> first | exact ⟨_, rfl⟩ | exact nomatch h1
    have h2 : (decide (l ≤ i) && decide (i ≤ m)) = true := h1
    rw [Bool.and_eq_true, decide_eq_true_eq, decide_eq_true_eq] at h2
    exact ⟨i :: ns, rfl, fun x hx => (List.mem_cons.mp hx).elim (fun e => e ▸ h2) (hn x)⟩
theorem ints_bet {ns : List Int} {l m : Int} (h : ∀ x ∈ ns, l ≤ x ∧ x ≤ m) : ∀ d ∈ iD ns, betD d l m = true := fun d hd => by
  obtain ⟨x, hx, rfl⟩ := List.mem_map.mp hd
  show (decide (l ≤ x) && decide (x ≤ m)) = true
  rw [decide_eq_true (h x hx).1, decide_eq_true (h x hx).2]; rfl
/-- an exception's class that is raised with a text -/
structure Err (K : PySem.W.Frag) (mg : Str → Option Value) (n : Str) (C : Addr) : Prop where
  g : mg n = some (.ref C)
  x : PySem.W.excIn K C [.type "ValueError", .type "Exception", .type "BaseException", .type "object"] "ValueError.__new__" = true
  k : PySem.W.keepIn K (.ref C) = true
  b : PySem.W.subIn K (.ref C) (.type "BaseException") = some true
  t : PySem.W.typeIn K (.ref C) = some (.type "type")
section
variable {P : Program} {w : World} {K : PySem.W.Frag} {mg : Str → Option Value} {base : Heap}
theorem isInt_eqL (d : PyData) : (isB "int" d && !isB "bool" d) = isIntD d := by
  cases d <;> rfl
def spIsIntL (K : PySem.W.Frag) (C : Addr) : Sp := fun vs H Q _ => ∃ v d, vs = [v] ∧ Lp K C H v d ∧ Q (.bl (isIntD d)) H
theorem ok_is_intL {f C : Addr} {fd : FuncData} {k : Nat} (LK : LineKit K C) (F : Fun K "is_int" "is_int" s_is_int f fd) (m1 : mg "isinstance" = none) (m2 : mg "int" = none) (m3 : mg "bool" = none) :
    FnOk P w K mg base CX0 (k + 1) f fd ["thing"] (spIsIntL K C) := by
  refine F.ok sc_is_int (fun vs H Q E h => ?_) (fun cdv A outer s H vs Q E hr h => ?_)
  · obtain ⟨v, d, rfl, _⟩ := h; rfl
  · obtain ⟨v, d, rfl, hd, q⟩ := h
    refine ⟨_, pss_one (ps_ret (pe_and
      (pe_callB (call_isiL (K := K) rfl LK) (by rfl) m1 (by decide +kernel) (pa_cons (pv 0) (pa_cons (pe_bltn (v := .ty "int") (by rfl) m2 (by decide +kernel) rfl) pa_nil)))
      (pe_one (pe_not (pe_callB (call_isiL (K := K) rfl LK) (by rfl) m1 (by decide +kernel) (pa_cons (pv 0) (pa_cons (pe_bltn (v := .ty "bool") (by rfl) m3 (by decide +kernel) rfl) pa_nil))))))), ?_⟩
    refine ⟨v, rfl, v, d, "int", rfl, hd, .inr (.inl rfl), isB "int" d, rfl, ?_⟩
    have e := isInt_eqL d
    cases h1 : isB "int" d with
    | false => rw [h1] at e; rw [← e] at q; exact iteF q
    | true =>
      refine iteT ⟨v, rfl, v, d, "bool", rfl, hd, .inr (.inr (.inl rfl)), isB "bool" d, rfl, ?_⟩
      rw [h1, Bool.true_and] at e
      rw [← e] at q
      exact q
def spBetL (K : PySem.W.Frag) (C : Addr) : Sp := fun vs H Q _ => ∃ v d, ∃ l m : Int, vs = [v, .int l, .int m] ∧ Lp K C H v d ∧ Q (.bl (betD d l m)) H
theorem ok_is_betweenL {f f1 C : Addr} {fd fd1 : FuncData} {k : Nat} (F : Fun K "is_between" "is_between" s_is_between f fd)
    (G1 : FnOk P w K mg base CX0 k f1 fd1 ["thing"] (spIsIntL K C)) (kp1 : PySem.W.keepIn K (.ref f1) = true) (b1 : Binds K fd1 ["thing"] []) (g1 : mg "is_int" = some (.ref f1)) :
    FnOk P w K mg base CX0 (k + 1) f fd ["thing", "least", "most"] (spBetL K C) := by
  refine F.ok sc_is_between (fun vs H Q E h => ?_) (fun cdv A outer s H vs Q E hr h => ?_)
  · obtain ⟨v, d, l, m, rfl, _⟩ := h; rfl
  · obtain ⟨v, d, l, m, rfl, hd, q⟩ := h
    refine ⟨_, pss_one (ps_ret (pe_and (pe_call G1 hr (by rfl) g1 kp1 b1 .nil pass0 (pa_cons (pv 0) pa_nil)) (pe_one (pe_chain op_le op_le (pv 1) (pv 0) (pv 2))))), ?_⟩
    refine ⟨v, rfl, v, d, rfl, hd, isIntD d, rfl, ?_⟩
    cases hi : isIntD d with
    | false =>
      have e : betD d l m = false := by cases d <;> first | rfl | exact nomatch hi
      rw [e] at q
      exact iteF q
    | true =>
      obtain ⟨i, rfl⟩ : ∃ i, d = .int i := by cases d <;> first | exact ⟨_, rfl⟩ | exact nomatch hi
      obtain rfl : v = .int i := hd.int_inv
      refine iteT ⟨.int l, rfl, .int i, rfl, l, i, rfl, rfl, decide (l ≤ i), rfl, ?_⟩
      have e : betD (.int i) l m = (decide (l ≤ i) && decide (i ≤ m)) := rfl
      rw [e] at q
      by_cases h1 : l ≤ i
      · rw [decide_eq_true h1] at q ⊢
        exact iteT ⟨.int m, rfl, i, m, rfl, rfl, q⟩
      · rw [decide_eq_false h1] at q ⊢
        exact iteF q
/-! ### is_work, of any data -/
def spIsWorkL (K : PySem.W.Frag) (C : Addr) : Sp := fun vs H Q _ => ∃ v d, vs = [v] ∧ Lp K C H v d ∧ ∀ H' b, Same H H' → (b = true ↔ WorkD d) → Q (.bl b) H'
theorem ok_is_workL {f f1 C : Addr} {fd fd1 : FuncData} {k : Nat} (LK : LineKit K C) (F : Fun K "is_work" "is_work" s_is_work f fd) (N : Nums mg)
    (G1 : FnOk P w K mg base CX0 k f1 fd1 ["thing", "least", "most"] (spBetL K C)) (kp1 : PySem.W.keepIn K (.ref f1) = true) (b1 : Binds K fd1 ["thing", "least", "most"] []) (g1 : mg "is_between" = some (.ref f1))
    (m1 : mg "isinstance" = none) (m2 : mg "tuple" = none) (m3 : mg "len" = none) (m4 : mg "all" = none) :
    FnOk P w K mg base CX0 (k + 1) f fd ["thing"] (spIsWorkL K C) := by
  obtain ⟨t1, n1⟩ := N.nowhere
  obtain ⟨t2, n2⟩ := N.stations
  obtain ⟨t3, n3⟩ := N.most
  refine F.ok sc_is_work (fun vs H Q E h => ?_) (fun cdv A outer s H vs Q E hr h => ?_)
  · obtain ⟨v, d, rfl, _⟩ := h; rfl
  · obtain ⟨v, d, rfl, hd, q⟩ := h
    refine ⟨_, pss_cons (ps_if (PW.pt (pw_or (pt_not (pt_val (pe_callB (call_isiL (K := K) rfl LK) (by rfl) m1 (by decide +kernel) (pa_cons (pv 0) (pa_cons (pe_bltn (v := .ty "tuple") (by rfl) m2 (by decide +kernel) rfl) pa_nil)))))
          (pw_or1 (pt_not (pt_chain op_le op_le pe_int (pe_callB call_len_seq (by rfl) m3 PySem.boot_len (pa_cons (pv 0) pa_nil)) (pe_glob (v := .int 60) (by rfl) n3 ⟨_, rfl⟩))))))
        (pss_one (ps_ret pe_bl)) pss_nil)
      (pss_cons (ps_if (pt_not (pt_val (pe_callB (cr_all rfl) (by rfl) m4 (by decide +kernel) (pa_cons
          (pe_lc (own := [("item", 1)]) (g := gName 1) (tt := tYes) rfl sc_is_work.nd (pi_tup (pv 0)) (blkOk_by (N := ["thing", "item"]) (sc := defScope s_is_work) (by decide +kernel))
            (fun _ _ _ _ _ => pg_name (i := 1) sc_is_work.nd rfl (Or.inl rfl)) (fun _ _ _ _ _ => pts_nil)
            (fun _ _ _ _ _ => pe_call G1 hr (by rfl) g1 kp1 b1 .nil pass0 (pa_cons (pv 1) (pa_cons (pe_glob (v := .int (-1)) (by rfl) n1 ⟨_, rfl⟩) (pa_cons (pe_op op_sub (pe_glob (v := .int 10) (by rfl) n2 ⟨_, rfl⟩) pe_int) pa_nil))))) pa_nil))))
        (pss_one (ps_ret pe_bl)) pss_nil)
      (pss_one (ps_ret (pe_and (pe_cmpR op_ne (pe_ix ix_tup (pv 0) pe_int (fun _ _ => rfl)) (pe_glob (v := .int (-1)) (by rfl) n1 ⟨_, rfl⟩) (nomark _))
        (pe_one (pe_cmpR op_ne (pe_ix ix_tup (pv 0) (pe_un un_neg pe_int) (fun _ _ => rfl)) (pe_glob (v := .int (-1)) (by rfl) n1 ⟨_, rfl⟩) (nomark _))))))), ?_⟩
    refine ⟨v, rfl, v, d, "tuple", rfl, hd, .inl rfl, isB "tuple" d, rfl, ?_⟩
    cases ht : isB "tuple" d with
    | false =>
      refine iteT ?_
      refine q H false (same_refl H) ⟨(fun z => nomatch z), fun ⟨ns, z, _⟩ => ?_⟩
      rw [z] at ht
      exact nomatch ht
    | true =>
      obtain ⟨ds, rfl⟩ := isB_tup.mp ht
      obtain ⟨a, xs, rfl, hS, hA⟩ := hd.tuple_inv
      have lx := LpAll.len hA
      have nowork : ∀ {H'}, Same H H' → (∀ ns, ds = iD ns → ¬ IsWork ns) → Q (.bl false) H' := fun {H'} e no => q H' false e ⟨(fun z => nomatch z), fun ⟨ns, z, hw⟩ => absurd hw (no ns (PyData.tuple.inj z))⟩
      refine iteF ?_
      refine ⟨.ref a, rfl, a, xs, rfl, .inr hS, 1, _, rfl, rfl, decide ((1 : Int) ≤ ((xs.length : Nat) : Int)), rfl, ?_⟩
      by_cases c1 : (1 : Int) ≤ ((xs.length : Nat) : Int)
      case neg =>
        rw [decide_eq_false c1]
        refine iteF ⟨false, rfl, iteT (nowork (same_refl H) fun ns e hw => ?_)⟩
        have := hw.pos
        rw [e, List.length_map] at lx
        omega
      rw [decide_eq_true c1]
      refine iteT ⟨_, 60, rfl, rfl, decide (((xs.length : Nat) : Int) ≤ 60), rfl, ?_⟩
      by_cases c2 : ((xs.length : Nat) : Int) ≤ 60
      case neg =>
        rw [decide_eq_false c2]
        refine iteT (nowork (same_refl H) fun ns e hw => ?_)
        have := hw.most
        rw [e, List.length_map] at lx
        omega
      rw [decide_eq_true c2]
      refine iteF ?_
      refine ⟨.ref a, rfl, a, rfl, ⟨_, hS⟩, fun D hD => ?_⟩
      refine lc_tup (xs := xs) (fun i H' => Same H H' ∧ H' D = some (.lst ((((ds.take i).map fun z => betD z (-1) 9)).map V.bl))) ⟨same_new hD, upd_same⟩ (fun i H' _ h => Same.tup h.1 hS) (fun i x H' hx h => ?_) (fun H' h => ?_)
      · obtain ⟨dd, hdd, hxd⟩ := LpAll.at hA hx
        have hil := (List.getElem?_eq_some_iff.mp hdd).1
        refine ⟨rfl, x, rfl, 10, 1, rfl, rfl, x, dd, -1, _, rfl, (hxd.same h.1), ?_⟩
        refine ⟨_, h.2, ?_, fun b o e => ?_, ?_⟩
        · rw [List.length_map, List.length_map, List.length_take]
          exact small1000 (by omega)
        · rw [upd_ne (ne_of_none e hD)]
          exact h.1 _ _ e
        · rw [upd_same, List.take_add_one, hdd, List.map_append, List.map_append]
          rfl
      · have h2 := h.2
        rw [lx, List.take_length] at h2
        refine ⟨D, _, rfl, .of h2, ((ds.map fun z => betD z (-1) 9)).all id, rfl, ?_⟩
        cases hall : ((ds.map fun z => betD z (-1) 9)).all id with
        | false =>
          refine iteT (nowork h.1 fun ns e hw => ?_)
          have : ((ds.map fun z => betD z (-1) 9)).all id = true := by
            rw [List.all_map, List.all_eq_true]
            intro z hz
            rw [e] at hz
            exact ints_bet (fun x hx => hw.items x hx) z hz
          rw [this] at hall
          exact nomatch hall
        | true =>
          rw [List.all_map, List.all_eq_true] at hall
          obtain ⟨ns, rfl, hns⟩ := all_ints hall
          obtain rfl := lpInts_v hA
          have ln : (ns.map V.int).length = ns.length := List.length_map _
          rw [ln] at c1 c2
          refine iteF ?_
          have hS' : SqT K H' a (ns.map V.int) := Same.tup h.1 hS
          obtain ⟨x, hx⟩ : ∃ x, ns[0]? = some x := ⟨ns[0]'(by omega), List.getElem?_eq_getElem _⟩
          obtain ⟨y, hy⟩ : ∃ y, ns[ns.length - 1]? = some y := ⟨ns[ns.length - 1]'(by omega), List.getElem?_eq_getElem _⟩
          have gx : (ns.map V.int)[0]? = some (.int x) := by rw [List.getElem?_map, hx]; rfl
          have gy : atI (ns.map V.int) (-1) = some (.int y) := by
            have hne : ns ≠ [] := fun z => by rw [z] at c1; exact absurd c1 (by decide)
            have e1 : ns = ns.dropLast ++ [y] := by
              have e2 : ns.getLast hne = y := by
                have := List.getLast_eq_getElem hne
                rw [this]
                exact (List.getElem?_eq_some_iff.mp hy).2
              rw [← e2, List.dropLast_concat_getLast]
            rw [e1, List.map_append]
            exact atI_last _ _
          have fin : ∀ b : Bool, (b = true ↔ x ≠ -1 ∧ y ≠ -1) → Q (.bl b) H' := fun b hb => q H' b h.1 (hb.trans ⟨fun ⟨g1, g2⟩ => ⟨ns, rfl, ⟨by omega, by omega, hns, fun z hz => by rw [hx] at hz; rw [← Option.some.inj hz]; exact g1, fun z hz => by rw [hy] at hz; rw [← Option.some.inj hz]; exact g2⟩⟩,
            fun ⟨ms, e, hw⟩ => by
              have e' : ns = ms := by
                have := congrArg (fun l : List PyData => l.map fun d => match d with | .int i => i | _ => 0) (PyData.tuple.inj e)
                simpa [List.map_map, Function.comp_def] using this
              subst e'
              exact ⟨hw.head x hx, hw.last y hy⟩⟩)
          refine ⟨.ref a, rfl, a, _, 0, .int x, rfl, rfl, hS', atI_nat (j := 0) gx, rfl, _, rfl, ?_⟩
          by_cases ex : x = -1
          · have d1 : (!decide (V.int x = V.int (-1))) = false := by rw [ex]; rfl
            rw [d1]
            exact iteF (fin false ⟨(fun z => nomatch z), fun z => absurd ex z.1⟩)
          · have d1 : (!decide (V.int x = V.int (-1))) = true := by rw [decide_eq_false fun z => ex (V.int.inj z)]; rfl
            rw [d1]
            refine iteT ⟨.ref a, rfl, 1, rfl, a, _, -1, .int y, rfl, rfl, hS', gy, rfl, ?_⟩
            refine fin _ ⟨fun z => ⟨ex, fun e => ?_⟩, fun z => ?_⟩
            · rw [e] at z; exact nomatch z
            · rw [decide_eq_false fun e => z.2 (V.int.inj e)]; rfl
/-! ### require_work, of any data -/
end
end Sg
set_option Elab.async false
set_option linter.all false
set_option maxRecDepth 100000
set_option maxHeartbeats 4000000
namespace Sg
open PySem PySem.Spec PyProof.Rows L2 StX
section
variable {P : Program} {w : World} {K : PySem.W.Frag} {mg : Str → Option Value} {base : Heap}
theorem ok_is_whole {f C : Addr} {fd : FuncData} {k : Nat} (LK : LineKit K C) (F : Fun K "_law_is_whole" "_law_is_whole" s_l_is_whole f fd) (m1 : mg "isinstance" = none) (m2 : mg "int" = none) (m3 : mg "bool" = none) :
    FnOk P w K mg base CX0 (k + 1) f fd ["_law_thing", "_law_low", "_law_high"] (spBetL K C) := by
  refine F.ok sc_l_is_whole (fun vs H Q E h => ?_) (fun cdv A outer s H vs Q E hr h => ?_)
  · obtain ⟨v, d, l, m, rfl, _⟩ := h; rfl
  · obtain ⟨v, d, l, m, rfl, hd, q⟩ := h
    refine ⟨_, pss_one (ps_ret (pe_and
      (pe_callB (call_isiL (K := K) rfl LK) (by rfl) m1 (by decide +kernel) (pa_cons (pv 0) (pa_cons (pe_bltn (v := .ty "int") (by rfl) m2 (by decide +kernel) rfl) pa_nil)))
      (pe_and (pe_not (pe_callB (call_isiL (K := K) rfl LK) (by rfl) m1 (by decide +kernel) (pa_cons (pv 0) (pa_cons (pe_bltn (v := .ty "bool") (by rfl) m3 (by decide +kernel) rfl) pa_nil))))
        (pe_one (pe_chain op_le op_le (pv 1) (pv 0) (pv 2)))))), ?_⟩
    refine ⟨v, rfl, v, d, "int", rfl, hd, .inr (.inl rfl), isB "int" d, rfl, ?_⟩
    have e := isInt_eqL d
    have no : isIntD d = false → betD d l m = false := fun z => by cases d <;> first | rfl | exact nomatch z
    cases h1 : isB "int" d with
    | false =>
      rw [h1] at e
      rw [no e.symm] at q
      exact iteF q
    | true =>
      rw [h1, Bool.true_and] at e
      refine iteT ⟨v, rfl, v, d, "bool", rfl, hd, .inr (.inr (.inl rfl)), isB "bool" d, rfl, !isB "bool" d, rfl, ?_⟩
      rw [e]
      cases hi : isIntD d with
      | false => rw [no hi] at q; exact iteF q
      | true =>
        obtain ⟨i, rfl⟩ : ∃ i, d = .int i := by cases d <;> first | exact ⟨_, rfl⟩ | exact nomatch hi
        obtain rfl : v = .int i := hd.int_inv
        refine iteT ⟨.int l, rfl, .int i, rfl, l, i, rfl, rfl, decide (l ≤ i), rfl, ?_⟩
        have e : betD (.int i) l m = (decide (l ≤ i) && decide (i ≤ m)) := rfl
        rw [e] at q
        by_cases h1 : l ≤ i
        · rw [decide_eq_true h1] at q ⊢
          exact iteT ⟨.int m, rfl, i, m, rfl, rfl, q⟩
        · rw [decide_eq_false h1] at q ⊢
          exact iteF q
theorem ok_l_is_work {f f1 C : Addr} {fd fd1 : FuncData} {k : Nat} (LK : LineKit K C) (F : Fun K "_law_is_work" "_law_is_work" s_l_is_work f fd)
    (G1 : FnOk P w K mg base CX0 k f1 fd1 ["_law_thing", "_law_low", "_law_high"] (spBetL K C)) (kp1 : PySem.W.keepIn K (.ref f1) = true) (b1 : Binds K fd1 ["_law_thing", "_law_low", "_law_high"] []) (g1 : mg "_law_is_whole" = some (.ref f1))
    (m1 : mg "isinstance" = none) (m2 : mg "tuple" = none) (m3 : mg "len" = none) :
    FnOk P w K mg base CX0 (k + 1) f fd ["_law_thing"] (spIsWorkL K C) := by
  refine F.ok sc_l_is_work (fun vs H Q E h => ?_) (fun cdv A outer s H vs Q E hr h => ?_)
  · obtain ⟨v, d, rfl, _⟩ := h; rfl
  · obtain ⟨v, d, rfl, hd, q⟩ := h
    refine ⟨_, pss_cons (ps_if (PW.pt (pw_or (pt_not (pt_val (pe_callB (call_isiL (K := K) rfl LK) (by rfl) m1 (by decide +kernel) (pa_cons (pv 0) (pa_cons (pe_bltn (v := .ty "tuple") (by rfl) m2 (by decide +kernel) rfl) pa_nil)))))
          (pw_or1 (pt_not (pt_chain op_le op_le pe_int (pe_callB call_len_seq (by rfl) m3 PySem.boot_len (pa_cons (pv 0) pa_nil)) pe_int)))))
        (pss_one (ps_ret pe_bl)) pss_nil)
      (pss_cons (ps_if (pt_cmpR (op_neNil hr.units0) (pe_lc (own := [("_law_one", 1)]) (g := gName 1) rfl sc_l_is_work.nd (pi_tup (pv 0)) (blkOk_by (N := ["_law_thing", "_law_one"]) (sc := defScope s_l_is_work) (by decide +kernel))
            (fun _ _ _ _ _ => pg_name (i := 1) sc_l_is_work.nd rfl (Or.inl rfl))
            (fun _ _ _ _ _ => pts_one (pt_not (pt_val (pe_call G1 hr (by rfl) g1 kp1 b1 .nil pass0 (pa_cons (pv 1) (pa_cons (pe_un un_neg pe_int) (pa_cons pe_int pa_nil)))))))
            (fun _ _ _ _ _ => pv 1)) (pe_lst pa_nil) (nomark _))
        (pss_one (ps_ret pe_bl)) pss_nil)
      (pss_one (ps_ret (pe_and (pe_cmpR op_gt (pe_ix ix_tup (pv 0) pe_int (fun _ _ => rfl)) (pe_un un_neg pe_int) (nomark _))
        (pe_one (pe_cmpR op_gt (pe_ix ix_tup (pv 0) (pe_un un_neg pe_int) (fun _ _ => rfl)) (pe_un un_neg pe_int) (nomark _))))))), ?_⟩
    refine ⟨v, rfl, v, d, "tuple", rfl, hd, .inl rfl, isB "tuple" d, rfl, ?_⟩
    cases ht : isB "tuple" d with
    | false =>
      refine iteT ?_
      refine q H false (same_refl H) ⟨(fun z => nomatch z), fun ⟨ns, z, _⟩ => ?_⟩
      rw [z] at ht
      exact nomatch ht
    | true =>
      obtain ⟨ds, rfl⟩ := isB_tup.mp ht
      obtain ⟨a, xs, rfl, hS, hA⟩ := hd.tuple_inv
      have lx := LpAll.len hA
      have nowork : ∀ {H'}, Same H H' → (∀ ns, ds = iD ns → ¬ IsWork ns) → Q (.bl false) H' := fun {H'} e no => q H' false e ⟨(fun z => nomatch z), fun ⟨ns, z, hw⟩ => absurd hw (no ns (PyData.tuple.inj z))⟩
      refine iteF ?_
      refine ⟨.ref a, rfl, a, xs, rfl, .inr hS, 1, _, rfl, rfl, decide ((1 : Int) ≤ ((xs.length : Nat) : Int)), rfl, ?_⟩
      by_cases c1 : (1 : Int) ≤ ((xs.length : Nat) : Int)
      case neg =>
        rw [decide_eq_false c1]
        refine iteF ⟨false, rfl, iteT (nowork (same_refl H) fun ns e hw => ?_)⟩
        have := hw.pos
        rw [e, List.length_map] at lx
        omega
      rw [decide_eq_true c1]
      refine iteT ⟨_, 60, rfl, rfl, decide (((xs.length : Nat) : Int) ≤ 60), rfl, ?_⟩
      by_cases c2 : ((xs.length : Nat) : Int) ≤ 60
      case neg =>
        rw [decide_eq_false c2]
        refine iteT (nowork (same_refl H) fun ns e hw => ?_)
        have := hw.most
        rw [e, List.length_map] at lx
        omega
      rw [decide_eq_true c2]
      refine iteF ?_
      refine ⟨.ref a, rfl, a, rfl, ⟨_, hS⟩, fun D hD => ?_⟩
      refine lc_tup (xs := xs) (fun i H' => Same H H' ∧ ∃ acc, H' D = some (.lst acc) ∧ acc.length ≤ i ∧ (acc = [] ↔ ∀ z ∈ ds.take i, betD z (-1) 9 = true)) ⟨same_new hD, [], upd_same, Nat.le_refl _, by simp⟩ (fun i H' _ h => Same.tup h.1 hS) (fun i x H' hx h => ?_) (fun H' h => ?_)
      · obtain ⟨sm, acc, hac, hal, hall⟩ := h
        obtain ⟨dd, hdd, hxd⟩ := LpAll.at hA hx
        have hil := (List.getElem?_eq_some_iff.mp hdd).1
        have htk : ds.take (i + 1) = ds.take i ++ [dd] := by rw [List.take_add_one, hdd]; rfl
        refine ⟨rfl, x, rfl, 1, rfl, x, dd, -1, 9, rfl, hxd.same sm, betD dd (-1) 9, rfl, ?_⟩
        cases hb : betD dd (-1) 9 with
        | true =>
          refine iteF ⟨sm, acc, hac, by omega, hall.trans ⟨fun h z hz => ?_, fun h z hz => h z (by rw [htk]; exact List.mem_append_left _ hz)⟩⟩
          rw [htk] at hz
          rcases List.mem_append.mp hz with hz | hz
          · exact h z hz
          · rw [List.mem_singleton.mp hz]; exact hb
        | false =>
          refine iteT ⟨x, rfl, acc, hac, small1000 (by omega), ?_⟩
          refine ⟨fun b o e => ?_, _, upd_same, by rw [List.length_append]; show acc.length + 1 ≤ i + 1; omega, ⟨fun z => absurd z (by simp), fun h => ?_⟩⟩
          · rw [upd_ne (ne_of_none e hD)]; exact sm _ _ e
          · have := h dd (by rw [htk]; exact List.mem_append_right _ List.mem_cons_self)
            rw [hb] at this
            exact nomatch this
      · obtain ⟨sm, acc, hac, hal, hall⟩ := h
        refine ⟨by show 0 ≤ sizeLine; omega, fun p hp => ?_⟩
        have nDp : D ≠ p := ne_of_none hac hp
        have sm' : Same H (upd H' p (.lst [])) := sm.trans (same_new hp)
        refine ⟨D, p, acc, rfl, rfl, .of (by rw [upd_ne nDp]; exact hac), .of upd_same, _, rfl, ?_⟩
        rw [lx, List.take_length] at hall
        cases hacc : acc with
        | cons y acc' =>
          refine iteT (nowork sm' fun ns e hw => ?_)
          have : acc = [] := hall.mpr fun z hz => by
            rw [e] at hz
            exact ints_bet (fun x hx => hw.items x hx) z hz
          rw [hacc] at this
          exact nomatch this
        | nil =>
          have hall := hall.mp hacc
          obtain ⟨ns, rfl, hns⟩ := all_ints hall
          obtain rfl := lpInts_v hA
          have ln : (ns.map V.int).length = ns.length := List.length_map _
          rw [ln] at c1 c2
          refine iteF ?_
          have hS' : SqT K (upd H' p (.lst [])) a (ns.map V.int) := Same.tup sm' hS
          obtain ⟨x, hx⟩ : ∃ x, ns[0]? = some x := ⟨ns[0]'(by omega), List.getElem?_eq_getElem _⟩
          obtain ⟨y, hy⟩ : ∃ y, ns[ns.length - 1]? = some y := ⟨ns[ns.length - 1]'(by omega), List.getElem?_eq_getElem _⟩
          have gx : (ns.map V.int)[0]? = some (.int x) := by rw [List.getElem?_map, hx]; rfl
          have gy : atI (ns.map V.int) (-1) = some (.int y) := by
            have hne : ns ≠ [] := fun z => by rw [z] at c1; exact absurd c1 (by decide)
            have e1 : ns = ns.dropLast ++ [y] := by
              have e2 : ns.getLast hne = y := by
                have := List.getLast_eq_getElem hne
                rw [this]
                exact (List.getElem?_eq_some_iff.mp hy).2
              rw [← e2, List.dropLast_concat_getLast]
            rw [e1, List.map_append]
            exact atI_last _ _
          have bx := hns x (List.mem_of_getElem? hx)
          have byy := hns y (List.mem_of_getElem? hy)
          have fin : ∀ b : Bool, (b = true ↔ x ≠ -1 ∧ y ≠ -1) → Q (.bl b) (upd H' p (.lst [])) := fun b hb => q _ b sm' (hb.trans ⟨fun ⟨g1, g2⟩ => ⟨ns, rfl, ⟨by omega, by omega, hns, fun z hz => by rw [hx] at hz; rw [← Option.some.inj hz]; exact g1, fun z hz => by rw [hy] at hz; rw [← Option.some.inj hz]; exact g2⟩⟩,
            fun ⟨ms, e, hw⟩ => by
              have e' : ns = ms := by
                have := congrArg (fun l : List PyData => l.map fun d => match d with | .int i => i | _ => 0) (PyData.tuple.inj e)
                simpa [List.map_map, Function.comp_def] using this
              subst e'
              exact ⟨hw.head x hx, hw.last y hy⟩⟩)
          refine ⟨.ref a, rfl, a, _, 0, .int x, rfl, rfl, hS', atI_nat (j := 0) gx, 1, rfl, x, -1, rfl, rfl, _, rfl, ?_⟩
          by_cases ex : x = -1
          · rw [decide_eq_false (by omega)]
            exact iteF (fin false ⟨(fun z => nomatch z), fun z => absurd ex z.1⟩)
          · rw [decide_eq_true (by omega)]
            refine iteT ⟨.ref a, rfl, 1, rfl, a, _, -1, .int y, rfl, rfl, hS', gy, 1, rfl, y, -1, rfl, rfl, ?_⟩
            refine fin _ ⟨fun z => ⟨ex, fun e => ?_⟩, fun z => decide_eq_true (by omega)⟩
            have := of_decide_eq_true z
            omega
end
end Sg
set_option Elab.async false
set_option linter.all false
set_option maxRecDepth 100000
set_option maxHeartbeats 4000000
set_option Elab.async false
set_option linter.all false
set_option maxRecDepth 100000
set_option maxHeartbeats 4000000
namespace Sg
open PySem PySem.Spec PyProof.Rows L2 StX
section
variable {P : Program} {w : World} {K : PySem.W.Frag} {mg : Str → Option Value} {base : Heap}
/-! ### _law_odds -/
/-- a list of some data, made of what is new -/
def spAnys (K : PySem.W.Frag) : Sp := fun vs H Q _ => vs = [] ∧ ∀ H' l xs, Same H H' → H l = none → H' l = some (.lst xs) → AllAny K (nw H H') xs → xs.length ≤ 100 → Q (.ref l) H'
/-- from H0 on: a list of some data at l -/
def AnyL (K : PySem.W.Frag) (H0 H : Hp) (n : Nat) (l : Addr) : Prop := ∃ xs, Same H0 H ∧ H0 l = none ∧ H l = some (.lst xs) ∧ AllAny K (nw H0 H) xs ∧ xs.length = n
theorem AnyL.cat {H0 H H' : Hp} {n m : Nat} {l l' : Addr} (h : AnyL K H0 H n l) (g : AnyL K H H' m l') (e : n + m ≤ 1000) {Q : VK} (q : ∀ H'' p, AnyL K H0 H'' (n + m) p → Q (.ref p) H'') : rCat (.ref l) (.ref l') H' Q := by
  obtain ⟨xs, a1, a2, a3, a4, a5⟩ := h
  obtain ⟨ys, b1, b2, b3, b4, b5⟩ := g
  have big : 1000 ≤ sizeLine := by rw [sizeLine_eq]; decide
  refine ⟨l, l', xs, ys, rfl, rfl, b1 _ _ a3, b3, by omega, fun p np => q _ p ⟨xs ++ ys, a1.trans (b1.trans (same_new np)), same_none (a1.trans b1) np, upd_same, ?_, by rw [List.length_append]; omega⟩⟩
  refine AllAny.app (a4.same (nw_same (b1.trans (same_new np)))) ((b4.same (nw_left a1)).same (nw_same (same_new np)))
theorem tAnyL.at {n : Nat} {σ : L2.St} {H : Hp} {Q : VK} (q : ∀ H' l, AnyL K H H' n l → Q (.ref l) H') : tAnyL K n σ H Q := fun H' l vs e1 e2 e3 e4 e5 => q H' l ⟨vs, e1, e2, e3, e4, e5⟩
theorem ok_l_odds {f : Addr} {fd : FuncData} {k : Nat} (F : Fun K "_law_odds" "_law_odds" s_l_odds f fd) : FnOk P w K mg base CX0 (k + 1) f fd [] (spAnys K) := by
  refine F.ok sc_l_odds (fun vs H Q E h => ?_) (fun cdv A outer s H vs Q E hr h => ?_)
  · rw [h.1]; rfl
  · obtain ⟨rfl, q⟩ := h
    refine ⟨_, pss_cons (ps_set (i := 0) sc_l_odds.nd rfl (.inl rfl) (pe_anyL (n := 20) (by decide +kernel) rfl (by decide)))
      (pss_cons (ps_set (i := 0) sc_l_odds.nd rfl (.inl rfl) (pe_op op_cat (pv 0) (pe_anyL (n := 11) (by decide +kernel) rfl (by decide))))
      (pss_cons (ps_set (i := 0) sc_l_odds.nd rfl (.inl rfl) (pe_op op_cat (pv 0) (pe_anyL (n := 9) (by decide +kernel) rfl (by decide))))
      (pss_cons (ps_set (i := 0) sc_l_odds.nd rfl (.inl rfl) (pe_op op_cat (pv 0) (pe_anyL (n := 9) (by decide +kernel) rfl (by decide))))
      (pss_one (ps_ret (pe_op op_cat (pv 0) (pe_anyL (n := 9) (by decide +kernel) rfl (by decide)))))))), ?_⟩
    refine fun H1 l1 x1 a1 a2 a3 a4 a5 => ⟨.ref l1, rfl, fun H2 l2 x2 b1 b2 b3 b4 b5 => AnyL.cat (K := K) ⟨x1, a1, a2, a3, a4, a5⟩ ⟨x2, b1, b2, b3, b4, b5⟩ (by decide) fun H3 p3 A3 => ?_⟩
    refine ⟨.ref p3, rfl, fun H2 l2 x2 b1 b2 b3 b4 b5 => A3.cat ⟨x2, b1, b2, b3, b4, b5⟩ (by decide) fun H5 p5 A5 => ?_⟩
    refine ⟨.ref p5, rfl, fun H2 l2 x2 b1 b2 b3 b4 b5 => A5.cat ⟨x2, b1, b2, b3, b4, b5⟩ (by decide) fun H7 p7 A7 => ?_⟩
    refine ⟨.ref p7, rfl, fun H2 l2 x2 b1 b2 b3 b4 b5 => A7.cat ⟨x2, b1, b2, b3, b4, b5⟩ (by decide) fun H9 p9 A9 => ?_⟩
    obtain ⟨xs, a1, a2, a3, a4, a5⟩ := A9
    exact q H9 p9 xs a1 a2 a3 a4 (by omega)
/-! ### _law_great -/
def deepD : Nat → PyData
  | 0 => .int 0
  | n + 1 => .tuple [deepD n]
theorem rep_any {H0 H : Hp} {p : Addr} {i : Int} {n : Nat} (h0 : H0 p = none) (hi : i = 0 ∨ i = -1) (hn : n ≤ 4000) : AnyV K (nw H0 (upd H p (.tup (List.replicate n [V.int i]).flatten))) (.ref p) := by
  have sm : SmL 1 [PyData.int i] := by rcases hi with rfl | rfl <;> exact smL_by (by decide +kernel)
  exact ⟨.tuple (List.replicate n [.int i]).flatten, .data (.tup (.of ((nw_none h0).trans upd_same)) (DpAll.rep (.cons (.int i) .nil) n)), (sm.rep n).tup (by omega)⟩
theorem repl_any {H0 H : Hp} {p : Addr} {i : Int} {n : Nat} (h0 : H0 p = none) (hi : i = 0 ∨ i = -1) (hn : n ≤ 4000) : AnyV K (nw H0 (upd H p (.lst (List.replicate n [V.int i]).flatten))) (.ref p) := by
  have sm : SmL 1 [PyData.int i] := by rcases hi with rfl | rfl <;> exact smL_by (by decide +kernel)
  exact ⟨.list (List.replicate n [.int i]).flatten, .data (.lst (.of ((nw_none h0).trans upd_same)) (DpAll.rep (.cons (.int i) .nil) n)), (sm.rep n).lst (by omega)⟩
/-- the state of _law_great at its end -/
def GreatS (K : PySem.W.Frag) (H0 : Hp) (σ : L2.St) (H : Hp) : Prop := ∃ v x, σ = [some v, x] ∧ Same H0 H ∧ Tp K (nw H0 H) v (deepD 18)
theorem ok_l_great {f : Addr} {fd : FuncData} {k : Nat} (F : Fun K "_law_great" "_law_great" s_l_great f fd) (m1 : mg "range" = none) : FnOk P w K mg base CX0 (k + 1) f fd [] (spAnys K) := by
  refine F.ok sc_l_great (fun vs H Q E h => ?_) (fun cdv A outer s H vs Q E hr h => ?_)
  · rw [h.1]; rfl
  · obtain ⟨rfl, q⟩ := h
    have stS : ∀ σ H1 H2, Same H1 H2 → GreatS K H σ H1 → GreatS K H σ H2 := fun σ H1 H2 e ⟨v, x, e1, e2, e3⟩ => ⟨v, x, e1, e2.trans e, e3.stay (.of (nw_same e))⟩
    have stR : ∀ (H1 H2 : Hp) v, Same H1 H2 → AnyV K (nw H H1) v → AnyV K (nw H H2) v := fun H1 H2 v e h => h.same (nw_same e)
    have pos : ∀ {m : Nat}, m ≤ 100000 → m ≤ sizeLine := fun h => Nat.le_trans h (by rw [sizeLine_eq]; decide)
    refine ⟨_, pss_cons (ps_set (i := 0) sc_l_great.nd rfl (.inl rfl) pe_int)
      (pss_cons (ps_for PassesOwn.never rfl (pi_range1 (by rfl) m1 (pa_cons pe_int pa_nil)) (pg_name (i := 1) sc_l_great.nd rfl (.inl rfl))
        (pss_one (ps_set (i := 0) sc_l_great.nd rfl (.inl rfl) (pe_tup (pa_cons (pv 0) pa_nil)))))
      (pss_one (ps_ret (pe_lst (pa_e (S := GreatS K H) (R := fun H' v => AnyV K (nw H H') v) stS stR (PE.e (pv 0) fun σ H1 Q1 hS q1 => ?_)
        (pa_e stS stR (PE.e (pe_op op_repB (pe_tup (pa_cons pe_int pa_nil)) pe_int) fun σ H1 Q1 hS q1 => ?_)
        (pa_e stS stR (PE.e (pe_op op_rep (pe_lst (pa_cons pe_int pa_nil)) pe_int) fun σ H1 Q1 hS q1 => ?_)
        (pa_e stS stR (PE.e (pe_op op_repB (pe_tup (pa_cons (pe_un un_neg pe_int) pa_nil)) pe_int) fun σ H1 Q1 hS q1 => ?_)
        (pa_e stS stR (PE.e (pe_disp (pps_cons pe_int (pv 0) pps_nil) rfl rfl (fun z => nomatch z) (by show 1 ≤ 15; decide)) fun σ H1 Q1 hS q1 => ?_)
        (pa_e stS stR (PE.e (pe_tup (pa_cons (pe_op op_repB (pe_tup (pa_cons pe_int pa_nil)) pe_int) (pa_cons (pv 0) pa_nil))) fun σ H1 Q1 hS q1 => ?_)
        (pa_e stS stR (PE.e (pe_tup (pa_cons (pe_op op_mulS pe_str pe_int) pa_nil)) fun σ H1 Q1 hS q1 => ?_) pa_e0))))))))))), ?_⟩
    · obtain ⟨v, x, rfl, sm, hT⟩ := hS
      exact ⟨v, rfl, q1 H1 v (same_refl H1) ⟨_, .data (Tp.dp hT), good_by (by decide +kernel)⟩⟩
    · obtain ⟨v, x, rfl, sm, hT⟩ := hS
      refine ⟨pos (by decide), fun t nt => ⟨t, 3000, _, rfl, rfl, .of upd_same, (fun z => nomatch z), by decide, by decide, fun p np => ?_⟩⟩
      have e1 := (same_new (o := .tup [V.int 0]) nt).trans (same_new (o := .tup (List.replicate 3000 [V.int 0]).flatten) np)
      exact q1 _ _ e1 (rep_any (same_none (sm.trans (same_new nt)) np) (.inl rfl) (by decide))
    · obtain ⟨v, x, rfl, sm, hT⟩ := hS
      refine ⟨pos (by decide), fun t nt => ⟨t, 3000, _, rfl, rfl, upd_same, by decide, by decide, pos (by decide), fun p np => ?_⟩⟩
      have e1 := (same_new (o := .lst [V.int 0]) nt).trans (same_new (o := .lst (List.replicate 3000 [V.int 0]).flatten) np)
      exact q1 _ _ e1 (repl_any (same_none (sm.trans (same_new nt)) np) (.inl rfl) (by decide))
    · obtain ⟨v, x, rfl, sm, hT⟩ := hS
      refine ⟨1, rfl, pos (by decide), fun t nt => ⟨t, 2000, _, rfl, rfl, .of upd_same, (fun z => nomatch z), by decide, by decide, fun p np => ?_⟩⟩
      have e1 := (same_new (o := .tup [V.int (-1)]) nt).trans (same_new (o := .tup (List.replicate 2000 [V.int (-1)]).flatten) np)
      exact q1 _ _ e1 (rep_any (same_none (sm.trans (same_new nt)) np) (.inr rfl) (by decide))
    · obtain ⟨v, x, rfl, sm, hT⟩ := hS
      intro p np
      refine ⟨v, rfl, upd_same, [(.inl 0, v)], rfl, by show 1 ≤ 15; decide, ?_⟩
      have e2 : Same H1 (L2.upd (L2.upd H1 p (.dK [])) p (.dK (mergeK [] [(.inl 0, v)]))) := fun b o z => by
        rw [upd_ne (ne_of_none z np), upd_ne (ne_of_none z np)]; exact z
      exact q1 _ _ e2 ⟨.dict [(.int 0, deepD 18)], .dic ((nw_none (same_none sm np)).trans upd_same) (.one (hT.stay (.of (nw_same e2)))), good_by (by decide +kernel)⟩
    · obtain ⟨v, x, rfl, sm, hT⟩ := hS
      refine ⟨pos (by decide), fun t nt => ⟨t, 900, _, rfl, rfl, .of upd_same, (fun z => nomatch z), by decide, by decide, fun p np => ?_⟩⟩
      have e1 := (same_new (o := .tup [V.int 0]) nt).trans (same_new (o := .tup (List.replicate 900 [V.int 0]).flatten) np)
      have hp0 := same_none (sm.trans (same_new nt)) np
      have hp1 : (upd (upd H1 t (.tup [V.int 0])) p (.tup (List.replicate 900 [V.int 0]).flatten)) p = some (.tup (List.replicate 900 [V.int 0]).flatten) := upd_same
      generalize upd (upd H1 t (.tup [V.int 0])) p (.tup (List.replicate 900 [V.int 0]).flatten) = H2 at e1 hp1 ⊢
      refine ⟨v, rfl, pos (by show 2 ≤ 100000; decide), fun r nr => ?_⟩
      have sm2 := sm.trans e1
      refine q1 _ _ (e1.trans (same_new nr)) ⟨.tuple [.tuple (List.replicate 900 [PyData.int 0]).flatten, deepD 18], .data (.tup (.of ((nw_none (same_none sm2 nr)).trans upd_same)) (.cons (.tup (.of ?_) (DpAll.rep (.cons (.int 0) .nil) 900)) (.cons (Tp.dp (hT.stay (.of (nw_same (e1.trans (same_new nr)))))) .nil))), ?_⟩
      · rw [nw_none hp0]; exact same_new nr _ _ hp1
      · have s1 : SmL 1 [PyData.int 0] := smL_by (by decide +kernel)
        have s2 : SmL 2000 [PyData.tuple (List.replicate 900 [PyData.int 0]).flatten] := SmL.one ((s1.rep 900).tup (by decide)) (by decide +kernel) (by have := (s1.rep 900).bk; simp only [PyData.bulk]; omega)
        have s3 : SmL 2000 [deepD 18] := smL_by (by decide +kernel)
        exact (SmL.cons s2 s3).tup (by decide)
    · obtain ⟨v, x, rfl, sm, hT⟩ := hS
      refine ⟨_, 900, rfl, rfl, by decide, by decide, by decide, pos (by decide), fun t nt => ?_⟩
      refine q1 _ _ (same_new nt) ⟨.tuple [.str (repS _ 900)], .data (.tup (.of ((nw_none (same_none sm nt)).trans upd_same)) (.cons (.str _) .nil)), (smL_rep (by decide +kernel)).tup (by decide)⟩
    · refine ⟨18, rfl, by decide, by decide, ?_⟩
      refine for_range (lo := 0) (n := 18) (fun i σ H' => ∃ v x, σ = [some v, x] ∧ Same H H' ∧ Tp K (nw H H') v (deepD i)) ⟨.int 0, _, rfl, same_refl H, .int 0⟩ ?_ ?_
      · rintro i σ H5 hi ⟨v, x, rfl, sm, hT⟩
        refine ⟨v, rfl, pos (by show 1 ≤ 100000; decide), fun t nt => ⟨.ref t, _, rfl, sm.trans (same_new nt), ?_⟩⟩
        exact .tu (.of ((nw_none (same_none sm nt)).trans upd_same)) (.on (hT.stay (.of (nw_same (same_new nt)))) .no)
      · rintro σ H5 ⟨v, x, rfl, sm, hT⟩
        refine ⟨⟨v, x, rfl, sm, hT⟩, fun H6 vs e6 hvs hl => ⟨pos (by omega), fun l nl => ?_⟩⟩
        exact q _ l vs ((sm.trans e6).trans (same_new nl)) (same_none (sm.trans e6) nl) upd_same (AllAny.same (nw_same (same_new nl)) hvs) (by omega)
end
end Sg
set_option Elab.async false
set_option linter.all false
set_option maxRecDepth 100000
set_option maxHeartbeats 4000000
namespace Sg
open PySem PySem.Spec PyProof.Rows L2 StX
theorem passE {X : Cx} {E : XK} (tk : Takes X fun cls d _ H => E cls d H) : Passes (L2.CX X.prog X.w) X E := fun pins σ H s e s' I c => passAt tk σ pins H s e s' I c
section
variable {P : Program} {w : World} {K : PySem.W.Frag} {mg : Str → Option Value} {base : Heap}
/-! ### an exception's __init__ of two fields -/
def spTwo (K : PySem.W.Frag) (C : Addr) (f1 f2 : Str) : Sp := fun vs H Q _ => ∃ (a : Addr) (x y : V), vs = [.ref a, x, y] ∧ H a = some (exo a C none) ∧
  ∀ dx, H dx = none → dx ≠ a → Q .non (upd (upd (upd H dx (exd dx [(f1, x)])) a (exo a C (some dx))) dx (exd dx [(f2, y), (f1, x)]))
theorem ok_many_init {f C : Addr} {fd : FuncData} {k : Nat} (F : Fun K "__init__" "TooMany.__init__" s_TooMany_init f fd) (T : OexC K C) (n1 : PySem.W.findIn K (.ref C) "amount" = some none) (n2 : PySem.W.findIn K (.ref C) "limit" = some none) :
    FnOk P w K mg base CX0 (k + 1) f fd ["self", "amount", "limit"] (spTwo K C "amount" "limit") := by
  refine F.ok sc_TooMany_init (fun vs H Q E h => ?_) (fun cdv A outer s H vs Q E hr h => ?_)
  · obtain ⟨a, x, y, rfl, _⟩ := h; rfl
  · obtain ⟨a, x, y, rfl, ha, q⟩ := h
    refine ⟨_, pss_cons (ps_ost (pv 0) (pv 1)) (pss_one (ps_ost (pv 0) (pv 2))), ?_⟩
    refine ⟨x, rfl, .ref a, rfl, a, C, rfl, T, n1, .inl ⟨ha, fun dx hd hne => ?_⟩⟩
    refine ⟨y, rfl, .ref a, rfl, a, C, rfl, T, n2, .inr ⟨dx, _, upd_same, ?_, (by show 1 ≤ 900; decide), q dx hd hne⟩⟩
    rw [upd_ne hne]
    exact upd_same
/-! ### kinds, refused -/
def spKindL (K : PySem.W.Frag) (C : Addr) : Sp := fun vs H Q _ => ∃ (a : Addr) (v : V) (ws : List (List Int)) (d : PyData), vs = [.ref a, v] ∧ LineAt K C H a ws ∧ Lp K C H v d ∧ Q (.bl (betD d 0 ((ws.length : Nat) - 1))) H
theorem cLenK {X : Cx} {K : PySem.W.Frag} {k : Nat} {C : Addr} (M : Meths X.prog X.w K X.mg X.base k C) (hK : X.K = K) (hr : Room (k + 2) X.A) : CallR X (.builtin "len") (fun xs H Q => ∃ a ws, xs = [.ref a] ∧ LineAt K C H a ws ∧ Q (.int (ws.length : Nat)) H) := by
  subst hK
  exact M.cLen hr
theorem ok_is_kindL {f f1 C : Addr} {fd fd1 : FuncData} {k : Nat} (F : Fun K "is_kind" "is_kind" s_is_kind f fd) (M : Meths2 P w K mg base k C)
    (G1 : FnOk P w K mg base CX0 (k + 2) f1 fd1 ["thing", "least", "most"] (spBetL K C)) (kp1 : PySem.W.keepIn K (.ref f1) = true) (b1 : Binds K fd1 ["thing", "least", "most"] []) (g1 : mg "is_between" = some (.ref f1)) (m1 : mg "len" = none) :
    FnOk P w K mg base CX0 (k + 3) f fd ["line", "thing"] (spKindL K C) := by
  refine F.ok sc_is_kind (fun vs H Q E h => ?_) (fun cdv A outer s H vs Q E hr h => ?_)
  · obtain ⟨a, v, ws, d, rfl, _⟩ := h; rfl
  · obtain ⟨a, v, ws, d, rfl, hL, hd, q⟩ := h
    refine ⟨_, pss_one (ps_ret (pe_call G1 hr (by rfl) g1 kp1 b1 .nil pass0 (pa_cons (pv 1) (pa_cons pe_int (pa_cons (pe_op op_sub (pe_callB (cLenK (K := K) M.m rfl hr) (by rfl) m1 PySem.boot_len (pa_cons (pv 0) pa_nil)) pe_int) pa_nil))))), ?_⟩
    exact ⟨v, rfl, .ref a, rfl, a, ws, rfl, hL, _, 1, rfl, rfl, v, d, 0, _, rfl, hd, q⟩
def spReqKindL (K : PySem.W.Frag) (C Ck : Addr) : Sp := fun vs H Q E => ∃ (a : Addr) (v : V) (ws : List (List Int)) (d : PyData), vs = [.ref a, v] ∧ LineAt K C H a ws ∧ Lp K C H v d ∧
  (betD d 0 ((ws.length : Nat) - 1) = true → Q .non H) ∧ (betD d 0 ((ws.length : Nat) - 1) = false → E (.ref Ck) none H)
theorem ok_require_kindL {f f1 C Ck : Addr} {fd fd1 : FuncData} {k : Nat} (F : Fun K "require_kind" "require_kind" s_require_kind f fd) (R : Err K mg "NoKind" Ck)
    (G1 : FnOk P w K mg base CX0 k f1 fd1 ["line", "thing"] (spKindL K C)) (kp1 : PySem.W.keepIn K (.ref f1) = true) (b1 : Binds K fd1 ["line", "thing"] []) (g1 : mg "is_kind" = some (.ref f1)) :
    FnOk P w K mg base (L2.CX P w) (k + 1) f fd ["line", "thing"] (spReqKindL K C Ck) := by
  refine F.okX sc_require_kind (fun vs H Q E h => ?_) (fun cdv A outer s H vs Q E hr h => ?_)
  · obtain ⟨a, v, ws, d, rfl, _⟩ := h; rfl
  · obtain ⟨a, v, ws, d, rfl, hL, hd, q1, q2⟩ := h
    refine ⟨_, pss_one (ps_if (pt_not (pt_val (pe_call G1 hr (by rfl) g1 kp1 b1 .nil pass0 (pa_cons (pv 0) (pa_cons (pv 1) pa_nil)))))
      (pss_one (ps_raise rfl (takes_of rfl rfl rfl rfl) (pmk_own PySem.F.excBase_ValueError R.x R.g R.k (raises_own R.b R.t) rfl))) pss_nil), ?_⟩
    refine ⟨.ref a, rfl, v, rfl, a, v, ws, d, rfl, hL, hd, _, rfl, ?_⟩
    cases hb : betD d 0 ((ws.length : Nat) - 1) with
    | true => exact iteF (q1 hb)
    | false => exact iteT (q2 hb)
/-! ### line[kind], line(kind, kind), line - kind, refused -/
def spItemB (K : PySem.W.Frag) (C Ck : Addr) : Sp := fun vs H _ E => ∃ (a : Addr) (v : V) (ws : List (List Int)) (d : PyData), vs = [.ref a, v] ∧ LineAt K C H a ws ∧ Lp K C H v d ∧ betD d 0 ((ws.length : Nat) - 1) = false ∧ E (.ref Ck) none H
theorem ok_itemB {f f1 C Ck : Addr} {fd fd1 : FuncData} {k : Nat} (F : Fun K "__getitem__" "Line.__getitem__" s_Line_getitem f fd)
    (G1 : FnOk P w K mg base (L2.CX P w) k f1 fd1 ["line", "thing"] (spReqKindL K C Ck)) (kp1 : PySem.W.keepIn K (.ref f1) = true) (b1 : Binds K fd1 ["line", "thing"] []) (g1 : mg "require_kind" = some (.ref f1)) :
    FnOk P w K mg base (L2.CX P w) (k + 1) f fd ["self", "at"] (spItemB K C Ck) := by
  refine F.okX sc_Line_getitem (fun vs H Q E h => ?_) (fun cdv A outer s H vs Q E hr h => ?_)
  · obtain ⟨a, v, ws, d, rfl, _⟩ := h; rfl
  · obtain ⟨a, v, ws, d, rfl, hL, hd, hb, q⟩ := h
    refine ⟨_, pss_cons (ps_expr (pe_callS G1 hr (by rfl) g1 kp1 b1 (fun σ => passAt (takes_of rfl rfl rfl rfl) σ) (pa_cons (pv 0) (pa_cons (pv 1) pa_nil)))) pss_never, ?_⟩
    exact ⟨.ref a, rfl, v, rfl, a, v, ws, d, rfl, hL, hd, (fun z => by rw [hb] at z; exact nomatch z), fun _ => q⟩
def spCallB (K : PySem.W.Frag) (C Ck : Addr) : Sp := fun vs H _ E => ∃ (a : Addr) (v u : V) (ws : List (List Int)) (d e : PyData), vs = [.ref a, v, u] ∧ LineAt K C H a ws ∧ Lp K C H v d ∧ Lp K C H u e ∧
  (betD d 0 ((ws.length : Nat) - 1) = false ∨ betD e 0 ((ws.length : Nat) - 1) = false) ∧ E (.ref Ck) none H
theorem ok_callB {f f1 C Ck : Addr} {fd fd1 : FuncData} {k : Nat} (F : Fun K "__call__" "Line.__call__" s_Line_call f fd)
    (G1 : FnOk P w K mg base (L2.CX P w) k f1 fd1 ["line", "thing"] (spReqKindL K C Ck)) (kp1 : PySem.W.keepIn K (.ref f1) = true) (b1 : Binds K fd1 ["line", "thing"] []) (g1 : mg "require_kind" = some (.ref f1)) :
    FnOk P w K mg base (L2.CX P w) (k + 1) f fd ["self", "one", "other"] (spCallB K C Ck) := by
  refine F.okX sc_Line_call (fun vs H Q E h => ?_) (fun cdv A outer s H vs Q E hr h => ?_)
  · obtain ⟨a, v, u, ws, d, e, rfl, _⟩ := h; rfl
  · obtain ⟨a, v, u, ws, d, e, rfl, hL, hd, he, hb, q⟩ := h
    refine ⟨_, pss_cons (ps_expr (pe_callS G1 hr (by rfl) g1 kp1 b1 (fun σ => passAt (takes_of rfl rfl rfl rfl) σ) (pa_cons (pv 0) (pa_cons (pv 1) pa_nil))))
      (pss_cons (ps_expr (pe_callS G1 hr (by rfl) g1 kp1 b1 (fun σ => passAt (takes_of rfl rfl rfl rfl) σ) (pa_cons (pv 0) (pa_cons (pv 2) pa_nil)))) pss_never), ?_⟩
    refine ⟨.ref a, rfl, v, rfl, a, v, ws, d, rfl, hL, hd, (fun z => ?_), fun _ => q⟩
    refine ⟨.ref a, rfl, u, rfl, a, u, ws, e, rfl, hL, he, (fun y => ?_), fun _ => q⟩
    rcases hb with hb | hb
    · rw [hb] at z; exact nomatch z
    · rw [hb] at y; exact nomatch y
def spSubB (K : PySem.W.Frag) (C Ck Co : Addr) : Sp := fun vs H _ E => ∃ (a : Addr) (v : V) (ws : List (List Int)) (d : PyData), vs = [.ref a, v] ∧ LineAt K C H a ws ∧ Lp K C H v d ∧
  ((betD d 0 ((ws.length : Nat) - 1) = false ∧ E (.ref Ck) none H) ∨ (betD d 0 ((ws.length : Nat) - 1) = true ∧ ws.length = 1 ∧ E (.ref Co) none H))
theorem ok_subB {f f1 C Ck Co : Addr} {fd fd1 : FuncData} {k : Nat} (F : Fun K "__sub__" "Line.__sub__" s_Line_sub f fd) (T : LC K mg C) (R : Err K mg "OnlyOne" Co)
    (G1 : FnOk P w K mg base (L2.CX P w) k f1 fd1 ["line", "thing"] (spReqKindL K C Ck)) (kp1 : PySem.W.keepIn K (.ref f1) = true) (b1 : Binds K fd1 ["line", "thing"] []) (g1 : mg "require_kind" = some (.ref f1)) (m1 : mg "len" = none) :
    FnOk P w K mg base (L2.CX P w) (k + 1) f fd ["self", "other"] (spSubB K C Ck Co) := by
  refine F.okX sc_Line_sub (fun vs H Q E h => ?_) (fun cdv A outer s H vs Q E hr h => ?_)
  · obtain ⟨a, v, ws, d, rfl, _⟩ := h; rfl
  · obtain ⟨a, v, ws, d, rfl, hL, hd, h⟩ := h
    refine ⟨_, pss_cons (ps_expr (pe_callS G1 hr (by rfl) g1 kp1 b1 (fun σ => passAt (takes_of rfl rfl rfl rfl) σ) (pa_cons (pv 0) (pa_cons (pv 1) pa_nil))))
      (pss_cons (ps_if (pt_cmpR op_eq (pe_callB call_len_seq (by rfl) m1 PySem.boot_len (pa_cons (pe_fld (pv 0) rfl) pa_nil)) pe_int (nomark _)) (pss_one (ps_raise rfl (takes_of rfl rfl rfl rfl) (pmk_own PySem.F.excBase_ValueError R.x R.g R.k (raises_own R.b R.t) rfl))) pss_nil) pss_never), ?_⟩
    refine ⟨.ref a, rfl, v, rfl, a, v, ws, d, rfl, hL, hd, (fun z => ?_), fun z => ?_⟩
    · rcases h with ⟨hb, _⟩ | ⟨_, h1, q⟩
      · rw [hb] at z; exact nomatch z
      obtain ⟨dx, t, b1, r, g1, g2, g3, g4, g5⟩ := id hL
      obtain ⟨_, xs, e, hS, hT⟩ := g2.toTup
      cases e
      have l1 := hT.len
      rw [List.length_map] at l1
      refine ⟨.ref a, rfl, a, C, dx, _, _, rfl, g1, T.cl, T.nW, lf_works _ _ _, t, xs, rfl, .inr hS, rfl, _, rfl, ?_⟩
      rw [show decide (V.int ((xs.length : Nat) : Int) = V.int 1) = true from by rw [l1, h1]; rfl]
      exact iteT q
    · rcases h with ⟨_, q⟩ | ⟨hb, _⟩
      · exact q
      · rw [hb] at z; exact nomatch z
end
end Sg
set_option Elab.async false
set_option linter.all false
set_option maxRecDepth 100000
set_option maxHeartbeats 4000000
namespace Sg
open PySem PySem.Spec PyProof.Rows L2 StX
theorem pe_nev {X : Cx} {e : Expr} : PE X e (fun _ _ _ => False) := ⟨fun _ _ _ _ _ _ h => h.elim⟩
theorem LpAll.app {K : PySem.W.Frag} {C : Addr} {H : Hp} : ∀ {us vs : List V} {es fs : List PyData}, LpAll K C H us es → LpAll K C H vs fs → LpAll K C H (us ++ vs) (es ++ fs)
  | _, _, _, _, .nil, g => g
  | _, _, _, _, .cons a r, g => .cons a (LpAll.app r g)
noncomputable def wkB (d : PyData) : Bool := @decide (WorkD d) (Classical.propDecidable _)
theorem wkB_iff {d : PyData} : wkB d = true ↔ WorkD d := by
  unfold wkB
  exact @decide_eq_true_iff _ (Classical.propDecidable _)
theorem bool_iff6 {a b : Bool} {p : Prop} (h : a = true ↔ p) (g : b = true ↔ p) : a = b := by
  cases a <;> cases b <;> first | rfl | exact absurd (h.mpr (g.mp rfl)) (by decide) | exact absurd (g.mpr (h.mp rfl)) (by decide)
section
variable {P : Program} {w : World} {K : PySem.W.Frag} {mg : Str → Option Value} {base : Heap}
theorem call_isiLP {X : Cx} {C : Addr} (hK : X.K = K) (hN : NoInst K C) (T : LC K mg C) (I : LI K C) :
    CallR X (.builtin "isinstance") (fun xs H Q => ∃ v, xs = [v, .ref C] ∧ ((∃ a ws, v = .ref a ∧ LineAt K C H a ws ∧ Q (.bl true) H) ∨ (PlainV K H v ∧ Q (.bl false) H))) := by
  subst hK
  intro pins s σ H xs us Q J r h
  obtain ⟨v, rfl, h⟩ := h
  rcases h with ⟨a, ws, rfl, hL, q⟩ | ⟨hp, q⟩
  · exact call_isi pins s σ H _ us Q J r ⟨.ref a, .ref C, .ref C, .ref C, true, rfl, .own C, isLine T.cl I hL, I.kit, q⟩
  · exact call_isiP rfl hN pins s σ H _ us Q J r ⟨v, rfl, hp, q⟩
/-! ### Line(..), refused -/
def ManyF (n : Nat) : List (Str × V) := [("limit", .int 3), ("amount", .int (n : Nat))]
def spInitB (K : PySem.W.Frag) (C Cw Ct : Addr) : Sp := fun vs H _ E => ∃ (x dx : Addr) (rest : List V) (ds : List PyData), vs = .ref x :: rest ∧ H x = some (.ins C dx []) ∧ LpAll K C H rest ds ∧ rest.length ≤ 900 ∧
  (((rest = [] ∨ ∃ d ∈ ds, ¬ WorkD d) ∧ ∀ H', Same H H' → E (.ref Cw) none H') ∨ ((∀ d ∈ ds, WorkD d) ∧ 3 < rest.length ∧ ∀ H' d, Same H H' → H' d = some (.xd (ManyF rest.length)) → E (.ref Ct) (some d) H'))
theorem ok_initB {f f1 fI C Cw Ct : Addr} {fd fd1 fdI : FuncData} {k : Nat} (F : Fun K "__init__" "Line.__init__" s_Line_init f fd) (hM : ∃ t, mg "MOST_WORKS" = some (.int 3 t)) (R : Err K mg "NoWork" Cw)
    (TO : OexC K Ct) (iC : PySem.W.findIn K (.ref Ct) "__init__" = some (some (.ref fI))) (tI : PySem.W.typeIn K (.ref fI) = some (.type "function")) (FI : FnOk P w K mg base CX0 k fI fdI ["self", "amount", "limit"] (spTwo K Ct "amount" "limit")) (bI : Binds K fdI ["self", "amount", "limit"] []) (gT : mg "TooMany" = some (.ref Ct))
    (G1 : FnOk P w K mg base CX0 (k + 1) f1 fd1 ["thing"] (spIsWorkL K C)) (kp1 : PySem.W.keepIn K (.ref f1) = true) (b1 : Binds K fd1 ["thing"] []) (g1 : mg "is_work" = some (.ref f1))
    (m1 : mg "all" = none) (m2 : mg "len" = none) : FnR P w K mg base (L2.CX P w) (k + 2) f (spInitB K C Cw Ct) := by
  obtain ⟨tM, nM⟩ := hM
  obtain ⟨oc, od, kV, doc, pm, an, cdv, ct, osl, rfl, lk, hcd⟩ := F.ex
  have R0 := fn_star (CX := L2.CX P w) (P := P) (w := w) (mg := mg) (base := base) (k := k + 1) (ps := ["self"]) (pv := "works") (sp := fun vs H _ E => ∃ (x dx p : Addr) (rest : List V) (ds : List PyData), vs = [.ref x, .ref p] ∧ H x = some (.ins C dx []) ∧ H p = some (.tup rest) ∧ LpAll K C H rest ds ∧ rest.length ≤ 900 ∧
    (((rest = [] ∨ ∃ d ∈ ds, ¬ WorkD d) ∧ ∀ H', Same H H' → E (.ref Cw) none H') ∨ ((∀ d ∈ ds, WorkD d) ∧ 3 < rest.length ∧ ∀ H' d, Same H H' → H' d = some (.xd (ManyF rest.length)) → E (.ref Ct) (some d) H'))) lk hcd sc_Line_init cxUp (bind_star1 (B := fun us => bindArgs (PySem.W.fnOf "__init__" "Line.__init__" (defArgs s_Line_init) (defBody s_Line_init) (defScope s_Line_init) .none kV doc pm an cdv ct) ⟨us, []⟩) (fun _ => rfl) (fun _ _ _ => rfl)) ?_
  · refine R0.imp fun vs H Q E h => ?_
    obtain ⟨x, dx, rest, ds, rfl, hx, hA, hl, h⟩ := h
    refine ⟨[.ref x], rest, rfl, rfl, Nat.le_of_lt (small1000 (by omega)), fun p np => ⟨x, dx, p, rest, ds, rfl, same_new np _ _ hx, upd_same, hA.same (same_new np), hl, ?_⟩⟩
    rcases h with ⟨h1, q⟩ | ⟨h1, h2, q⟩
    · exact .inl ⟨h1, fun H' e => q H' ((same_new np).trans e)⟩
    · exact .inr ⟨h1, h2, fun H' d e => q H' d ((same_new np).trans e)⟩
  · intro A outer s H vs Q E hr h
    obtain ⟨x, dx, p, rest, ds, rfl, hx, hp, hA, hl, h⟩ := h
    refine ⟨_, pss_cons (ps_if (PW.pt (pw_or (pt_not (pt_truth (pv 1) (fun _ => rfl))) (pw_or1 (pt_not (pt_val (pe_callB (cr_all rfl) (by rfl) m1 (by decide +kernel) (pa_cons
        (pe_lc (own := [("work", 2)]) (g := gName 2) (tt := tYes) rfl sc_Line_init.nd (pi_tup (pv 1)) (blkOk_by (N := ["self", "works", "work", "row", "pair", "bar"]) (sc := defScope s_Line_init) (by decide +kernel))
          (fun _ _ _ _ _ => pg_name (i := 2) sc_Line_init.nd rfl (Or.inl rfl)) (fun _ _ _ _ _ => pts_nil)
          (fun _ _ _ _ _ => pe_call G1 hr (by rfl) g1 kp1 b1 .nil pass0 (pa_cons (pv 2) pa_nil))) pa_nil))))))) (pss_one (ps_raise rfl (takes_of rfl rfl rfl rfl) (pmk_own PySem.F.excBase_ValueError R.x R.g R.k (raises_own R.b R.t) rfl))) pss_nil)
      (pss_cons (ps_if (pt_cmpR op_gt (pe_callB call_len_seq (by rfl) m2 PySem.boot_len (pa_cons (pv 1) pa_nil)) (pe_glob (v := .int 3) (by rfl) nM ⟨_, rfl⟩) (nomark _))
        (pss_one (ps_raise rfl (takes_of rfl rfl rfl rfl) (pmk_oex TO iC tI FI hr bI .nil pass0 (by rfl) gT (pa_cons (pe_callB call_len_seq (by rfl) m2 PySem.boot_len (pa_cons (pv 1) pa_nil)) (pa_cons (pe_glob (v := .int 3) (by rfl) nM ⟨_, rfl⟩) pa_nil))))) pss_nil) pss_never), ?_⟩
    have hp' : SqT K H p rest := .of hp
    have lx := LpAll.len hA
    refine ⟨.ref p, rfl, !rest.isEmpty, .inr (.inl ⟨rest, hp', rfl⟩), ?_⟩
    cases he : rest.isEmpty with
    | true =>
      have hn : rest = [] := List.isEmpty_iff.mp he
      refine iteT ?_
      rcases h with ⟨_, q⟩ | ⟨_, h2, _⟩
      · exact q H (same_refl H)
      · rw [hn] at h2; exact absurd h2 (by decide)
    | false =>
      have hn : rest ≠ [] := fun z => by rw [z] at he; exact nomatch he
      refine iteF ?_
      refine ⟨.ref p, rfl, p, rfl, ⟨_, hp'⟩, fun D hD => ?_⟩
      refine lc_tup (xs := rest) (fun i H' => Same H H' ∧ H' D = some (.lst ((((ds.take i).map wkB)).map V.bl))) ⟨same_new hD, upd_same⟩ (fun i H' _ h => Same.tup h.1 hp') (fun i y H' hy h => ?_) (fun H' h5 => ?_)
      · obtain ⟨dd, hdd, hyd⟩ := LpAll.at hA hy
        refine ⟨rfl, y, rfl, y, dd, rfl, hyd.same h.1, fun H2 b e2 hb => ?_⟩
        refine ⟨_, e2 _ _ h.2, ?_, fun b o e => ?_, ?_⟩
        · rw [List.length_map, List.length_map, List.length_take]
          exact small1000 (by omega)
        · rw [upd_ne (ne_of_none e hD)]
          exact e2 _ _ (h.1 _ _ e)
        · rw [upd_same, List.take_add_one, hdd, List.map_append, List.map_append, bool_iff6 hb (wkB_iff (d := dd))]
          rfl
      · have h2 := h5.2
        rw [lx, List.take_length] at h2
        refine ⟨D, _, rfl, .of h2, (ds.map wkB).all id, rfl, ?_⟩
        have hall : (ds.map wkB).all id = true ↔ ∀ d ∈ ds, WorkD d := by
          rw [List.all_map, List.all_eq_true]
          exact ⟨fun z d hd => wkB_iff.mp (z d hd), fun z d hd => wkB_iff.mpr (z d hd)⟩
        rcases h with ⟨h3, q⟩ | ⟨h3, h4, q⟩
        · have hf : (ds.map wkB).all id = false := by
            cases z : (ds.map wkB).all id with
            | false => rfl
            | true =>
              rcases h3 with h3 | ⟨d, hd, hw⟩
              · exact absurd h3 hn
              · exact absurd (hall.mp z d hd) hw
          rw [hf]
          exact iteT (q H' h5.1)
        · rw [hall.mpr h3]
          refine iteF ?_
          have hpH : SqT K H' p rest := Same.tup h5.1 hp'
          refine ⟨.ref p, rfl, p, rest, rfl, .inr hpH, _, 3, rfl, rfl, _, rfl, ?_⟩
          rw [decide_eq_true (show (((rest.length : Nat) : Int)) > 3 by omega)]
          refine iteT ⟨.ref p, rfl, p, rest, rfl, .inr hpH, (by show 2 ≤ 1000; decide), fun a na => ⟨a, .int (rest.length : Nat), .int 3, rfl, upd_same, fun d nd hne => ?_⟩⟩
          have nd' : H' d = none := by rw [upd_ne hne] at nd; exact nd
          refine ⟨rfl, d, _, ?_, upd_same, nd', ?_⟩
          · rw [upd_ne (Ne.symm hne), upd_same]
          · refine q _ d (fun b o hb => ?_) upd_same
            have nb := h5.1 _ _ hb
            have n1 := ne_of_none nb na
            have n2 := ne_of_none nb nd'
            rw [upd_ne n2, del_ne n1, upd_ne n2, upd_ne n1, upd_ne n2, upd_ne n1]
            exact nb
/-! ### one + other, refused -/
def spAddB (K : PySem.W.Frag) (C Cl Ct : Addr) : Sp := fun vs H _ E => ∃ (a : Addr) (v : V) (ws : List (List Int)), vs = [.ref a, v] ∧ LineAt K C H a ws ∧
  ((PlainV K H v ∧ E (.ref Cl) none H) ∨ ∃ b us, v = .ref b ∧ LineAt K C H b us ∧ 3 < ws.length + us.length ∧ ∀ H' d, Same H H' → H' d = some (.xd (ManyF (ws.length + us.length))) → E (.ref Ct) (some d) H')
theorem ok_addB {f f1 C Cl Cw Ct : Addr} {fd : FuncData} {k : Nat} (F : Fun K "__add__" "Line.__add__" s_Line_add f fd) (T : LC K mg C) (I : LI K C) (hN : NoInst K C) (M : Mk K C f1) (R : Err K mg "NoLine" Cl)
    (G : FnR P w K mg base (L2.CX P w) k f1 (spInitB K C Cw Ct)) (m1 : mg "isinstance" = none) :
    FnOk P w K mg base (L2.CX P w) (k + 2) f fd ["self", "other"] (spAddB K C Cl Ct) := by
  refine F.okX sc_Line_add (fun vs H Q E h => ?_) (fun cdv A outer s H vs Q E hr h => ?_)
  · obtain ⟨a, v, ws, rfl, _⟩ := h; rfl
  · obtain ⟨a, v, ws, rfl, hL, h⟩ := h
    refine ⟨_, pss_cons (ps_if (pt_not (pt_val (pe_callB (call_isiLP (K := K) rfl hN T I) (by rfl) m1 (by decide +kernel) (pa_cons (pv 1) (pa_cons (pe_glob (v := .ref C) (by rfl) T.mgC rfl) pa_nil)))))
        (pss_one (ps_raise rfl (takes_of rfl rfl rfl rfl) (pmk_own PySem.F.excBase_ValueError R.x R.g R.k (raises_own R.b R.t) rfl))) pss_nil)
      (pss_cons (ps_set (i := 2) sc_Line_add.nd rfl (Or.inl rfl) (pe_op op_catA (pe_fld (pv 0) rfl) (pe_fld (pv 1) rfl)))
      (pss_one (ps_ret (pe_makeS M G hr (by rfl) T.mgC (passE (takes_of rfl rfl rfl rfl)) (pv 2))))), ?_⟩
    rcases h with ⟨hp, q⟩ | ⟨b, us, rfl, hR, h3, q⟩
    · exact ⟨v, rfl, v, rfl, .inr ⟨hp, false, rfl, iteT q⟩⟩
    refine ⟨.ref b, rfl, .ref b, rfl, .inl ⟨b, us, rfl, hR, true, rfl, iteF ?_⟩⟩
    obtain ⟨dx, t, b1, r, h1, h2, h3', h4, h5⟩ := id hL
    obtain ⟨dx', t', b1', r', h1', h2', h3'', h4', h5'⟩ := id hR
    obtain ⟨_, xs, e, hS, hT⟩ := h2.toTup
    cases e
    obtain ⟨_, ys, e, hS', hT'⟩ := h2'.toTup
    cases e
    have l1 := hT.len
    have l2 := hT'.len
    rw [List.length_map] at l1 l2
    have p1 := h5.least
    have p2 := h5'.least
    have f1 := h5.few
    have f2 := h5'.few
    refine ⟨.ref a, rfl, a, C, dx, _, _, rfl, h1, T.cl, T.nW, lf_works _ _ _, .ref b, rfl, b, C, dx', _, _, rfl, h1', T.cl, T.nW, lf_works _ _ _, t, t', xs, ys, rfl, rfl, hS, hS', Nat.le_of_lt (small1000 (by omega)),
      (fun z => ?_), (fun _ z => ?_), (fun _ _ p np => ?_)⟩
    · rw [z] at l1; rw [← l1] at p1; exact absurd p1 (by decide)
    · rw [z] at l2; rw [← l2] at p2; exact absurd p2 (by decide)
    · refine ⟨.ref p, rfl, p, xs ++ ys, rfl, .inl (.of upd_same), fun z dz nz ndz ne => ?_⟩
      have st : St K H (upd H p (.tup (xs ++ ys))) := .of (same_new np)
      have e3 : Same H (upd (upd (upd H p (.tup (xs ++ ys))) dz (.own z)) z (.ins C dz [])) := fun b o hb => by
        have g := same_new (o := .tup (xs ++ ys)) np _ _ hb
        rw [upd_ne (ne_of_none g nz), upd_ne (ne_of_none g ndz)]
        exact g
      have hA := DpAll.lp (C := C) (hT.stay (.of e3)).dp
      have hB := DpAll.lp (C := C) (hT'.stay (.of e3)).dp
      have ll : (xs ++ ys).length = ws.length + us.length := by rw [List.length_append, l1, l2]
      refine ⟨z, dz, xs ++ ys, tDs ws ++ tDs us, rfl, upd_same, LpAll.app hA hB, by omega, .inr ⟨fun d hd => ?_, by omega, fun H' d e hd => q H' d (e3.trans e) (by rw [hd, ll])⟩⟩
      rcases List.mem_append.mp hd with hd | hd
      · obtain ⟨n, hn, rfl⟩ := List.mem_map.mp hd
        exact ⟨n, rfl, h5.work n hn⟩
      · obtain ⟨n, hn, rfl⟩ := List.mem_map.mp hd
        exact ⟨n, rfl, h5'.work n hn⟩
/-! ### one == whatever is no line -/
def spEqP (K : PySem.W.Frag) (C : Addr) : Sp := fun vs H Q _ => ∃ (a : Addr) (v : V) (ws : List (List Int)), vs = [.ref a, v] ∧ LineAt K C H a ws ∧ PlainV K H v ∧ Q (.bl false) H
theorem ok_eqP {f C : Addr} {fd : FuncData} {k : Nat} (F : Fun K "__eq__" "Line.__eq__" s_Line_eq f fd) (T : LC K mg C) (I : LI K C) (hN : NoInst K C) (m1 : mg "isinstance" = none) :
    FnOk P w K mg base CX0 (k + 1) f fd ["self", "other"] (spEqP K C) := by
  refine F.ok sc_Line_eq (fun vs H Q E h => ?_) (fun cdv A outer s H vs Q E hr h => ?_)
  · obtain ⟨a, v, ws, rfl, _⟩ := h; rfl
  · obtain ⟨a, v, ws, rfl, hL, hp, q⟩ := h
    refine ⟨_, pss_one (ps_ret (pe_and (pe_callB (call_isiLP (K := K) rfl hN T I) (by rfl) m1 (by decide +kernel) (pa_cons (pv 1) (pa_cons (pe_glob (v := .ref C) (by rfl) T.mgC rfl) pa_nil))) (pe_one pe_nev))), ?_⟩
    exact ⟨v, rfl, v, rfl, .inr ⟨hp, false, rfl, iteF q⟩⟩
end
end Sg
set_option Elab.async false
set_option linter.all false
set_option maxRecDepth 100000
set_option maxHeartbeats 4000000
namespace Sg
open PySem PySem.Spec PyProof.Rows L2 StX
/-- plain values, with their types -/
inductive PlD (K : PySem.W.Frag) (H : Hp) : V → String → Prop
  | non : PlD K H .non "NoneType"
  | bl (b : Bool) : PlD K H (.bl b) "bool"
  | int (i : Int) : PlD K H (.int i) "int"
  | str (x : Str) : PlD K H (.str x) "str"
  | lst {a : Addr} {xs : List V} : SqL K H a xs → PlD K H (.ref a) "list"
  | tup {a : Addr} {xs : List V} : SqT K H a xs → PlD K H (.ref a) "tuple"
  | dic {a : Addr} {kvs : List (L2.Key × V)} : H a = some (.dK kvs) → PlD K H (.ref a) "dict"
theorem PlD.ext {K : PySem.W.Frag} {H H' : Hp} (e : LamX.ExtN H H') {v : V} {T : String} (h : PlD K H v T) : PlD K H' v T := by
  cases h with
  | non => exact .non
  | bl b => exact .bl b
  | int i => exact .int i
  | str x => exact .str x
  | lst h => exact .lst (ext_lst e h)
  | tup h => exact .tup (ext_tup e h)
  | dic h => exact .dic (e _ _ h fun ps z => nomatch z)
theorem PlD.plain {K : PySem.W.Frag} {H : Hp} {v : V} {T : String} (h : PlD K H v T) : PlainV K H v := by
  cases h with
  | non => exact ⟨.none, .base .non⟩
  | bl b => exact ⟨.bool b, .base (.bl b)⟩
  | int i => exact ⟨.int i, .base (.int i)⟩
  | str x => exact ⟨.str x, .base (.str x)⟩
  | lst h => exact ⟨.list [], tyL h⟩
  | tup h => exact ⟨.tuple [], tyT h⟩
  | dic h => exact ⟨.dict [], .base (.dK h)⟩
def tyNs : List String := ["NoneType", "bool", "int", "str", "list", "tuple", "dict"]
theorem PlD.mem {K : PySem.W.Frag} {H : Hp} {v : V} {T : String} (h : PlD K H v T) : T ∈ tyNs := by
  cases h <;> decide
theorem PlD.look {X : Cx} {pins : List (Addr × Obj)} {σ : L2.St} {H : Hp} {s : Shared} (I : Inv X pins σ H s) {v : V} {u : Value} {T : String} (r : RelV v u) (h : PlD X.K H v T) :
    PySem.W.Looks (model X.prog X.w) s.heap (typeOf u) (.type T) := by
  have at_ : ∀ {a : Addr} {o : Obj}, s.heap.get? a = some o → o.cls = .type T → PySem.W.Looks (model X.prog X.w) s.heap (typeOf (.ref a)) (.type T) := fun ho hc =>
    fun A Q E s' k q => wpAny_typeOf_ref (k _ _ ho) (by rw [hc]; exact q)
  cases h with
  | non => cases r; exact PySem.W.Looks.of_pure rfl
  | bl b => cases r; exact PySem.W.Looks.of_pure rfl
  | int i => obtain ⟨t, rfl⟩ := r; exact PySem.W.Looks.of_pure rfl
  | str i => obtain ⟨t, rfl⟩ := r; exact PySem.W.Looks.of_pure rfl
  | lst h =>
    obtain ⟨its, _, hl, _⟩ := I.list h
    cases r
    obtain ⟨o, ho, hc⟩ := hl.isList.typeIs (s := s)
    exact at_ ho hc
  | tup h =>
    obtain ⟨its, _, hl, _⟩ := I.tuple h
    cases r
    obtain ⟨o, ho, hc⟩ := hl.typeIs (s := s)
    exact at_ ho hc
  | dic h =>
    cases r
    obtain ⟨z, hm, xs, rel, o, es, ep, ho, hx, _⟩ := dk_rd I.hok (.inl h)
    exact at_ ho hx.1
/-- what + and - ask of the class and of the built-in types -/
structure OpsX (K : PySem.W.Frag) (C : Addr) (nm : String) : Prop where
  sf : PySem.W.selfFirst K C = true
  rc : ∃ rc, PySem.W.findIn K (.ref C) (dunderR nm) = some rc ∧ (rc = none ∨ ∃ g : Addr, rc = some (.ref g))
  ty : ∀ T ∈ tyNs, (∃ fo, PySem.W.findIn K (.type T) (PySem.dunder nm) = some fo) ∧ (∃ ro, PySem.W.findIn K (.type T) (dunderR nm) = some ro) ∧ PySem.W.subIn K (.type T) (.ref C) = some false
section
variable {prog : Program} {w : World} {A : Around} {E : Value → Shared → Prop} {s : Shared} {K : PySem.W.Frag} {x C L f : Addr} {h₀ : Heap} {m : Str → Option Value} {ox : Obj} {od : Option Obj} {T : String}
/-- an instance of C, and a plain value behind it -/
theorem bin_at {op : Operator} {b : Value} {Q : Value → Shared → Prop} (X : K.In s.heap) (I : PySem.W.InstAt s.heap x ox C od)
    (lb : PySem.W.Looks (model prog w) s.heap (typeOf b) (.type T)) (O : OpsX K C op.info.2) (hT : T ∈ tyNs)
    (hs : PySem.W.findIn K (.ref C) (PySem.dunder op.info.2) = some (some (.ref f))) (hf : PySem.W.isFn K (.ref f) = true)
    (h : wpAny (model prog w) A (call (.ref f) [.ref x, b]) (PySem.W.CmpBack Q) E s) : wpAny (model prog w) A (binaryOp op (.ref x) b) Q E s := by
  obtain ⟨cd, tl, k1, k2⟩ := PySem.W.ksp_first O.sf
  obtain ⟨rc, o1, o2⟩ := O.rc
  obtain ⟨⟨fo, t1⟩, ⟨ro, t2⟩, t3⟩ := O.ty T hT
  rcases info : op.info with ⟨sy, nm⟩
  rw [info] at hs o1 t1 t2
  dsimp only at hs o1 t1 t2
  have step := PySem.W.ksp_try X I hs hf h
  obtain ⟨hp, gs, dr, tk, sys⟩ := s
  have q1 := I.type (M := model prog w)
  have q2 : PySem.W.Looks (model prog w) hp (typeOf b) (.type T) := lb
  have q3 : PySem.W.Looks (model prog w) hp (fillsNumberSlot (.ref C) nm) true := PySem.W.fills_K X k1 k2 hs
  have q4 := PySem.W.ksp_fillsT (M := model prog w) X t1 t2
  have q5 : PySem.W.Looks (model prog w) hp (isSubtype (.type T) (.ref C)) false := PySem.W.looks_subIn X t3
  have q6 := PySem.W.ksp_inPy (M := model prog w) X hs o1 o2
  have q7 : PySem.W.Looks (model prog w) hp (numberSlotInPython (.type T) nm) false := PySem.W.Looks.of_pure rfl
  have q8 : PySem.W.Looks (model prog w) hp (typeLookup (.type T) (dunderR nm)) ro := PySem.W.looks_findIn X t2
  have ne : (Value.ref C == Value.type T) = false := by
    rw [Bool.eq_false_iff]
    intro z
    cases beq_iff_eq.mp z
  have fin : ∀ {R : Option Value → Shared → Prop} {cont : Option Value → Sem (Option Value)}, (∀ v s', Q v s' → wpAny (model prog w) A (cont (some v)) R E s') →
      wpAny (model prog w) A (tryMethod (.ref x) (PySem.dunder nm) b >>= cont) R E ⟨hp, gs, dr, tk, sys⟩ := fun k => wpAny_bind (wpAny_mono step (fun r s' hr => by
        obtain ⟨v, rfl, hq⟩ := hr
        exact k v s' hq) fun _ _ z => z)
  generalize ((fo.isSome && !isSeqSlot fo) || (ro.isSome && !isSeqSlot ro)) = side at q4
  simp only [binaryOp, info]
  refine wpAny_holding (wpAny_bind ?_)
  unfold binaryOp1
  refine wpAny_bind (q1.at ?_)
  refine wpAny_bind (q2.at ?_)
  refine wpAny_bind (q3.at ?_)
  simp only [ne, Bool.false_eq_true, if_false]
  rcases side with _ | _
  all_goals
    ksp_lk
    refine wpAny_mono step (fun r s' hr => ?_) fun _ _ z => z
    obtain ⟨v, rfl, hq⟩ := hr
    ksp_lk
    exact hq
end
end Sg
set_option Elab.async false
set_option linter.all false
set_option maxRecDepth 100000
set_option maxHeartbeats 4000000
namespace Sg
open PySem PySem.Spec PyProof.Rows L2 StX
section
variable {X : Cx} {k : Nat} {C g : Addr} {fd : FuncData} {ps : List Str} {sp : Sp} {E : XK} {a b e fe : Expr} {es : List Expr} {ta tb tf : TE} {t : TA} {p pos : Pos}
theorem run_in1X {pins : List (Addr × Obj)} {σ : L2.St} {H : Hp} {s : Shared} {Q : VK} {us : List Value} {vs : List V} (F : FnOk X.prog X.w X.K X.mg X.base (L2.CX X.prog X.w) k g fd ps sp) (hr : Room (k + 1) X.A) (hb : Binds X.K fd ps []) (hx : Passes (L2.CX X.prog X.w) X E)
    (I : Inv X pins σ H s) (r : Vals vs us) (h : sp vs H Q E) : wpAny (model X.prog X.w) X.A.in1 (call (.ref g) us) (EP X pins σ Q) X.xe s := by
  have hl : (us ++ []).length = ps.length := by rw [List.append_nil, ← r.length]; exact F.len _ _ _ _ h
  have hbb := hb s us I.kIn hl
  rw [List.append_nil] at hbb
  refine wpAny_call (codeAny_mono (F.run X.A.in1 X.stack s H ⟨us, []⟩ us vs Q E hr.in1 I.env0.in1 hbb r h) ?_)
  intro r' s' hq
  match r', hq with
  | .error _, hq => exact hx pins σ H s _ s' I hq
  | .ok (.ret _), hq => exact I.after hq
  | .ok .next, hq => exact hq.elim
  | .ok .brk, hq => exact hq.elim
  | .ok .cont, hq => exact hq.elim
/-- a + b, a an instance of C, b plain or an instance too -/
def tBinX (K : PySem.W.Frag) (C : Addr) (sp : Sp) (E : XK) (ta tb : TE) : TE := fun σ H Q => ta σ H fun y H1 => tb σ H1 fun z H2 => ∃ o, y = .ref o ∧ InsAt H2 C o ∧ ((∃ T, PlD K H2 z T) ∨ ∃ o', z = .ref o' ∧ InsAt H2 C o') ∧ sp [.ref o, z] H2 Q E
theorem pe_binX {op : Operator} (ha : PE X a ta) (hb : PE X b tb) (F : FnOk X.prog X.w X.K X.mg X.base (L2.CX X.prog X.w) k g fd ps sp) (hr : Room k X.A) (hbi : Binds X.K fd ps []) (hs : PySem.W.findIn X.K (.ref C) (PySem.dunder op.info.2) = some (some (.ref g)))
    (hf : PySem.W.isFn X.K (.ref g) = true) (O : OpsX X.K C op.info.2) (hx : Passes (L2.CX X.prog X.w) X E) : PE X (.BinOp a op b pos) (tBinX X.K C sp E ta tb) := by
  refine ⟨fun pins s σ H Q I h => wpAny_BinOp (bin ha hb I h fun v u s2 x y H2 I2 rx ry q => ?_)⟩
  obtain ⟨o, rfl, hi, hz, q⟩ := q
  obtain rfl : v = Value.ref o := rx
  obtain ⟨_, _, J⟩ := insAt_look I2 hi
  have run := thn (run_fn (us := [.ref o, u]) (vs := [.ref o, y]) F hr hbi .nil hx I2 (.cons rfl (.cons ry .nil)) q) fun _ _ z => back_of z
  rcases hz with ⟨T, hp⟩ | ⟨o', rfl, hi'⟩
  · exact bin_at I2.kIn J (PlD.look I2 ry hp) O hp.mem hs hf run
  · obtain rfl : u = Value.ref o' := ry
    obtain ⟨m, hF⟩ := I2.fr
    obtain ⟨_, _, J'⟩ := insAt_look I2 hi'
    exact PySem.W.binop_K hF I2.ok.mod.kin J J'.type O.sf hs hf run
/-- a[b] -/
def tItemX (C : Addr) (sp : Sp) (E : XK) (ta tb : TE) : TE := fun σ H Q => ta σ H fun y H1 => tb σ H1 fun z H2 => ∃ o, y = .ref o ∧ InsAt H2 C o ∧ sp [.ref o, z] H2 Q E
theorem pe_itemX (ha : PE X a ta) (hb : PE X b tb) (F : FnOk X.prog X.w X.K X.mg X.base (L2.CX X.prog X.w) k g fd ps sp) (hr : Room (k + 1) X.A) (hbi : Binds X.K fd ps []) (hs : PySem.W.findIn X.K (.ref C) "__getitem__" = some (some (.ref g)))
    (hf : PySem.W.isFn X.K (.ref g) = true) (hfi : PySem.W.fnIn X.K g = true) (hx : Passes (L2.CX X.prog X.w) X E)
    (hsl : ∀ x i, subscripted b true (.ref x) i = runValue (.builtin "lifetime.subscript" ⟨[.ref x, i], []⟩) := by intro _ _; rfl) : PE X (.Subscript a b pos) (tItemX C sp E ta tb) := by
  refine ⟨fun pins s σ H Q I h' => Subscript_ (binT ha hb I h' fun v u s2 x y H2 I2 rx ry q => ?_)⟩
  obtain ⟨o, rfl, hi, q⟩ := q
  obtain rfl : v = Value.ref o := rx
  obtain ⟨m, hF⟩ := I2.fr
  obtain ⟨_, _, J⟩ := insAt_look I2 hi
  exact PySem.W.sub_K hF I2.ok.mod.kin J hs hfi hf (run_in1X (us := [.ref o, u]) (vs := [.ref o, y]) F hr hbi hx I2 (.cons rfl (.cons ry .nil)) q) (hsl _ _)
/-- a(e, ..) -/
def tCallX (C : Addr) (sp : Sp) (E : XK) (tf : TE) (t : TA) : TE := fun σ H Q => tf σ H fun y H1 => ∃ o, y = V.ref o ∧ t σ H1 fun vs H2 => InsAt H2 C o ∧ sp (.ref o :: vs) H2 Q E
theorem pe_callOX (hf : PE X fe tf) (ha : PA X (e :: es) t) (c : CallO X.K C g) (F : FnR X.prog X.w X.K X.mg X.base (L2.CX X.prog X.w) k g sp) (hr : Room k X.A) (hx : Passes (L2.CX X.prog X.w) X E)
    (ht : eval (.Call fe (e :: es) [] pos) X.env = (do callWith pos (← eval fe X.env) [] (backTo pos (starEach (e :: es) X.env)) (backToKw pos (keywordEach [] X.env))) := by rfl)
    (he : starEach (e :: es) X.env = (false, eval e X.env) :: starEach es X.env := by rfl) (hpl : (backTo pos (starEach es X.env)).any (·.1) = false := by rfl) :
    PE X (.Call fe (e :: es) [] pos) (tCallX C sp E tf t) := by
  refine ⟨fun pins s σ H Q I h' => Call_ (thn (hf.run pins s σ H _ I h') fun u s1 ⟨y, H1, I1, ry, o, ey, q⟩ => ?_) ht⟩
  subst ey
  obtain rfl : u = Value.ref o := ry
  refine callO_with (thn (ha.run pos pins s1 σ H1 _ I1 q) fun us s2 ⟨vs, H2, I2, r, hi, q2⟩ => ?_) he hpl
  have hi' : InsC X H2 o C := .inr hi
  obtain ⟨ox, od, J, hd⟩ := insC_at I2 hi'
  exact ⟨⟨C, ox, od, J, hd⟩, run_callO c F hr hx I2 hi' r q2⟩
/-- a def's promise as an FnR's, whatever it lets out -/
theorem fnR_ofX {P : Program} {w : World} {K : PySem.W.Frag} {mg : Str → Option Value} {base : Heap} {CX : CXT} (F : FnOk P w K mg base CX k g fd ps sp) (hb : Binds K fd ps []) : FnR P w K mg base CX k g sp := by
  intro A outer s H us vs Q E hr e0 r h
  have hl : (us ++ []).length = ps.length := by rw [List.append_nil, ← r.length]; exact F.len _ _ _ _ h
  have KX : K.In s.heap := e0.mod.kin.keeps fun b o e => (e0.bs b o e).1
  have hbb := hb s us KX hl
  rw [List.append_nil] at hbb
  exact F.run A outer s H ⟨us, []⟩ us vs Q E hr e0 hbb r h
/-- C() -/
theorem pe_make0 {x : Str} {f : Addr} {CX : CXT} (M : Mk X.K C f) (F : FnR X.prog X.w X.K X.mg X.base CX k f sp) (hr : Room (k + 1) X.A) (hg : Gl X x) (hm : X.mg x = some (.ref C)) (hx : Passes CX X E) (hdb : (x == ("__debug__" : Str)) = false := by decide) :
    PE X (.Call (.Name x p) [] [] pos) (fun σ H Q => ∀ z dz, H z = none → H dz = none → dz ≠ z → sp [V.ref z] (upd (upd H dz (.own z)) z (.ins C dz [])) (fun v H2 => v = .non ∧ Q (.ref z) H2) E) := by
  refine ⟨fun pins s σ H Q I h => ?_⟩
  refine wpAny_Call_Name_kw (ld_glob I hg hm ?_ hdb)
  exact PySem.W.callWith_K0 I.kIn M.kp (run_makeR (us := []) (vs := []) M F hr hx I .nil h)
/-- a == b, b plain -/
theorem op_eqP (F : FnOk X.prog X.w X.K X.mg X.base CX0 k g fd ps sp) (hr : Room k X.A) (hb : Binds X.K fd ps []) (hs : PySem.W.findIn X.K (.ref C) "__eq__" = some (some (.ref g))) (hf : PySem.W.isFn X.K (.ref g) = true)
    (hty : ∀ T ∈ tyNs, PySem.W.subIn X.K (.type T) (.ref C) = some false) :
    OpR X (compareOp .Eq) (fun x y H Q => ∃ a T, x = .ref a ∧ InsAt H C a ∧ PlD X.K H y T ∧ sp [.ref a, y] H Q E0) := by
  intro pins s σ H x y v u Q I rx ry h
  obtain ⟨a, T, rfl, ha, hp, h⟩ := h
  obtain rfl : v = Value.ref a := rx
  obtain ⟨m, hF⟩ := I.fr
  obtain ⟨_, _, J⟩ := insAt_look I ha
  show wpAny (model X.prog X.w) X.A (richCompare .Eq (.ref a) u) (EP X pins σ Q) X.xe s
  refine PySem.W.cmp_K (op := .Eq) (tb := .type T) hr.units0 hF I.ok.mod.kin J (PlD.look I ry hp) (by unfold PySem.W.notFirst; rw [hty T hp.mem]; simp) hs hf ?_
  exact thn (run_fn (us := [.ref a, u]) (vs := [.ref a, y]) F hr hb .nil pass0 I (.cons rfl (.cons ry .nil)) h) fun _ _ z => back_of z
/-- a != b, b plain -/
theorem op_neP (F : FnOk X.prog X.w X.K X.mg X.base CX0 k g fd ps sp) (hr : Room (k + 2) X.A) (hb : Binds X.K fd ps []) (hs : PySem.W.findIn X.K (.ref C) "__eq__" = some (some (.ref g))) (hf : PySem.W.isFn X.K (.ref g) = true)
    (hne : PySem.W.findIn X.K (.ref C) "__ne__" = some (some (.builtin "object.__ne__"))) (hsub : PySem.W.subIn X.K (.ref C) (.type "object") = some true) (hty : ∀ T ∈ tyNs, PySem.W.subIn X.K (.type T) (.ref C) = some false) :
    OpR X (compareOp .NotEq) (fun x y H Q => ∃ a T, x = .ref a ∧ InsAt H C a ∧ PlD X.K H y T ∧ sp [.ref a, y] H (fun v H' => ∃ c, v = .bl c ∧ Q (.bl (!c)) H') E0) := by
  intro pins s σ H x y v u Q I rx ry h
  obtain ⟨a, T, rfl, ha, hp, h⟩ := h
  obtain rfl : v = Value.ref a := rx
  obtain ⟨_, _, J⟩ := insAt_look I ha
  have lb := PlD.look I ry hp
  have hcall := run_in1 (us := [.ref a, u]) (vs := [.ref a, y]) (E := X.xe) F (hr.mono (by omega)) hb I (.cons rfl (.cons ry .nil)) h
  have inner : wpAny (model X.prog X.w) X.A.in1 (Builtin.«object.__ne__» ⟨[.ref a, u], []⟩) (fun fin s' => ∃ r, fin = .done (.ret (.bool r)) ∧ EP X pins σ Q (.bool r) s') X.xe s := by
    unfold Builtin.«object.__ne__»
    refine wpAny_bind (m := slotArgs "__ne__" 1 ⟨[.ref a, u], []⟩) (wpAny_of_eq (a := (Value.ref a, [u])) (by first | rfl | (simp only [slotArgs]; rfl)) ?_)
    refine wpAny_bind (wpAny_cRoomFor (show X.A.in1.units < cLine from (hr.mono (show k + 1 ≤ k + 2 by omega)).in1.units0) ?_)
    refine wpAny_bind (m := callSpecialIfBound? (.ref a) (Str.ofString "__eq__") [u]) (PySem.W.ifBound_K I.kIn J hs hf (thn hcall ?_))
    rintro w' s' ⟨z, H', I', rz, c, rfl, q⟩
    obtain rfl : w' = Value.bool c := rz
    refine wpAny_bind (wpAny_truthy_bool ?_)
    exact wpAny_pure ⟨!c, rfl, .bl (!c), H', I', rfl, q⟩
  have isI : PySem.W.Looks (model X.prog X.w) s.heap (isInstance (.ref a) (.type "object")) true := J.type.andThen (PySem.W.looks_subIn I.kIn hsub)
  have one : wpAny (model X.prog X.w) X.A (tryCompare (.ref a) "__ne__" u) (fun r s' => ∃ c, r = some (.bool c) ∧ EP X pins σ Q (.bool c) s') X.xe s := by
    unfold tryCompare
    have call1 : wpAny (model X.prog X.w) X.A (call (.builtin "object.__ne__") [.ref a, u]) (fun r s' => ∃ c, r = .bool c ∧ EP X pins σ Q (.bool c) s') X.xe s := by
      refine wpAny_call (codeAny_call_builtin slot_object_ne.plain PySem.F.cmpEntry_ne ?_)
      refine PySem.W.check_slot PySem.F.cmpKind_ne PySem.F.cmpSplit_ne isI (PySem.F.cmpArgs_ne _ _) (thn inner ?_)
      rintro fin s' ⟨r, rfl, q⟩
      exact ⟨r, rfl, q⟩
    have call2 : wpAny (model X.prog X.w) X.A (callSpecialIfBound? (.ref a) "__ne__" [u]) (fun r s' => ∃ c, r = some (.bool c) ∧ EP X pins σ Q (.bool c) s') X.xe s := by
      simp only [callSpecialIfBound?, bindSpecialIfBound?]
      refine wpAny_holding (wpAny_bind (wpAny_bind (wpAny_bind (J.type.here ((PySem.W.looks_findIn I.kIn hne).here ?_)))))
      refine wpAny_bind (wpAny_askSetting (wpAny_ite ?_))
      have fin : wpAny (model X.prog X.w) X.A (call (.builtin "object.__ne__") ([.ref a] ++ [u]) >>= fun v => pure (some v)) (fun r s' => ∃ c, r = some (.bool c) ∧ EP X pins σ Q (.bool c) s') X.xe s := by
        refine wpAny_bind (thn call1 ?_)
        rintro r s' ⟨c, rfl, q⟩
        exact wpAny_pure ⟨c, rfl, q⟩
      have bind : (bindSpecial (.builtin "object.__ne__") (.ref a) : Sem _) = pure (.builtin "object.__ne__", [.ref a]) := slot_object_ne.bind (.ref a)
      split
      · rw [bind]; exact wpAny_bind (wpAny_pure (wpAny_pure (by exact fin)))
      · rw [bind]; exact wpAny_tryCatch (wpAny_bind (wpAny_pure (wpAny_pure (by exact fin))))
    refine wpAny_bind (thn call2 ?_)
    rintro r s' ⟨c, rfl, q⟩
    exact wpAny_pure ⟨c, rfl, q⟩
  show wpAny (model X.prog X.w) X.A (richCompare .NotEq (.ref a) u) (EP X pins σ Q) X.xe s
  unfold richCompare
  simp only [oneThing_ref]
  refine wpAny_holding (wpAny_bind (wpAny_cRoomFor hr.units0 ?_))
  refine wpAny_bind (J.type.here (wpAny_bind (lb.here ?_)))
  rw [show (Value.ref C != Value.type T) = true from by simp]
  simp only [if_true]
  refine wpAny_bind ((PySem.W.looks_subIn I.kIn (hty T hp.mem)).here ?_)
  simp only [Bool.false_eq_true, if_false]
  refine wpAny_bind (thn one ?_)
  rintro r s' ⟨c, rfl, q⟩
  exact wpAny_pure q
end
end Sg
set_option Elab.async false
set_option linter.all false
set_option maxRecDepth 100000
set_option maxHeartbeats 4000000
namespace Sg
open PySem PySem.Spec PyProof.Rows L2 StX
def kNames : List Str := ["NoWork", "NoLine", "NoKind", "OnlyOne", "NoPlan", "NoKinds", "NoCounts", "NoState", "NoChoice", "NoTick", "NoLap", "NotFitting", "NoWorths", "NoWaits", "NoDistance", "NotTwo", "NoRate", "NoBars", "NoTicks", "NoStation", "NoPace", "NoText", "NothingDone", "TooMany", "TooFar", "TooLong", "Clash", "TooSoon"]
def kWords : List Str := ["work", "line", "kind", "one", "plan", "kinds", "counts", "state", "choice", "tick", "lap", "fitting", "worths", "waits", "distance", "two", "rate", "bars", "ticks", "station", "pace", "text", "nothing", "many", "far", "long", "clash", "soon"]
/-- the marks from i on, n of them: the one at j is set -/
def mk (j i n : Nat) : List V := (List.range' i n).map fun m => V.bl (decide (m = j))
theorem mk_app (j i n : Nat) : mk j 0 i ++ mk j i n = mk j 0 (i + n) := by
  unfold mk
  rw [← List.map_append]
  congr 1
  have := List.range'_append_1 (s := 0) (m := i) (n := n)
  rw [Nat.zero_add] at this
  exact this
/-- the exception's own dict stands -/
def XdOk (d : Option Addr) (H : Hp) : Prop := ∀ dd, d = some dd → ∃ fs, H dd = some (.xd fs)
theorem XdOk.same {d : Option Addr} {H H' : Hp} (h : XdOk d H) (e : Same H H') : XdOk d H' := fun dd hd => by
  obtain ⟨fs, hf⟩ := h dd hd
  exact ⟨fs, e _ _ hf⟩
theorem XdOk.no {H : Hp} : XdOk none H := fun dd hd => nomatch hd
/-- isinstance(e, c), e an exception that is known to stand there, with its dict -/
theorem call_isPd {X : Cx} {p : Addr × Obj} {K : PySem.W.Frag} {D : Addr} {d : Option Addr} (hK : X.K = K) (hp : p ∈ X.pn) (C : ExcC K D) (hcl : PySem.W.isClsIn K D = true) (hz : Zc (.ref D) d p.2) (hf : ∃ vs, p.2.data = .fields vs) :
    CallR X (.builtin "isinstance") (fun xs H Q => ∃ (c : V) (cv : Value) (b : Bool), xs = [.ref p.1, c] ∧ (∀ u, RelV c u → u = cv) ∧ PySem.W.kitOne K (.ref D) cv = some b ∧ XdOk d H ∧ Q (.bl b) H) := by
  subst hK
  intro pins s σ H xs us Q I r h
  obtain ⟨c, cv, b, rfl, hcv, e, xd, q⟩ := h
  obtain ⟨u1, u2, rfl, r1, r2⟩ := vals2 r
  cases r1
  obtain rfl := hcv _ r2
  have hget := (I.pin p (List.mem_append_left _ hp)).1
  obtain ⟨vs, hv⟩ := hf
  obtain ⟨od, J⟩ : ∃ od, PySem.W.InstAt s.heap p.1 p.2 D od := by
    cases d with
    | none => exact ⟨none, hget, hz.1, by unfold PySem.W.notCls; rw [hv] <;> rfl, by rw [hz.2]; trivial⟩
    | some dd =>
      obtain ⟨fs, ea⟩ := xd dd rfl
      have hx : ObjOk X.prog X.w H s.heap dd (.xd fs) := I.hok dd _ ea
      obtain ⟨mA, hns, hr⟩ := hx
      obtain ⟨od, ho, hl⟩ := lookIn_ns hns
      exact ⟨some od, hget, hz.1, by unfold PySem.W.notCls; rw [hv] <;> rfl, by rw [hz.2]; exact ho⟩
  exact PySem.W.kia_one (PySem.W.kitx_exc hcl C.hg C.hk C.hs C.ha C.hn C.ht C.hm) I.kIn J e (fun z => nomatch z) fun tk => ⟨.bl b, H, I.tok tk, rfl, q⟩
def tMks (p : Addr × Obj) (d : Option Addr) (j i n : Nat) : TA := fun σ H Q => σ[0]? = some (some (.ref p.1)) ∧ XdOk d H ∧ Q (mk j i n) H
def tMkL (p : Addr × Obj) (d : Option Addr) (j i n : Nat) : TE := fun σ H Q => σ[0]? = some (some (.ref p.1)) ∧ XdOk d H ∧ ∀ H' l, Same H H' → H' l = some (.lst (mk j i n)) → Q (.ref l) H'
section
variable {X : Cx} {p : Addr × Obj} {d : Option Addr} {j i n : Nat}
theorem pa_m0 : PA X [] (tMks p d j i 0) := ⟨fun pos pins s σ H Q I h => pa_nil.run pos pins s σ H Q I h.2.2⟩
theorem pa_m {e : Expr} {es : List Expr} (h : PE X e fun σ H Q => σ[0]? = some (some (.ref p.1)) ∧ XdOk d H ∧ Q (.bl (decide (i = j))) H) (g : PA X es (tMks p d j (i + 1) n))
    (he : starEach (e :: es) X.env = (false, eval e X.env) :: starEach es X.env := by rfl) : PA X (e :: es) (tMks p d j i (n + 1)) := by
  refine ⟨fun pos pins s σ H Q I q => (pa_cons h g he).run pos pins s σ H Q I ?_⟩
  exact ⟨q.1, q.2.1, q.1, q.2.1, q.2.2⟩
theorem pe_mkL {es : List Expr} {pos : Pos} (h : PA X es (tMks p d j i n)) (hn : n ≤ 1000) : PE X (.List es pos) (tMkL p d j i n) := by
  refine PE.imp (pe_lst h) fun σ H Q q => ⟨q.1, q.2.1, ?_, fun l nl => q.2.2 _ l (same_new nl) upd_same⟩
  have big : 1000 ≤ sizeLine := by rw [sizeLine_eq]; decide
  unfold mk
  rw [List.length_map, List.length_range']; omega
end
/-- the class D is the one at j -/
structure KindOk (K : PySem.W.Frag) (C : Nat → Addr) (D : Addr) (j : Nat) : Prop where
  lt : j < 28
  ec : ExcC K D
  cl : PySem.W.isClsIn K D = true
  kit : ∀ i, i < 28 → PySem.W.kitOne K (.ref D) (.ref (C i)) = some (decide (i = j))
  val : PySem.W.kitOne K (.ref D) (.type "ValueError") = some true
theorem pe_isE {X : Cx} {K : PySem.W.Frag} {C : Nat → Addr} {p : Addr × Obj} {D : Addr} {d : Option Addr} {j : Nat} {x : Str} {q1 q2 q3 pos : Pos} (hK : X.K = K) (hp : p ∈ X.pn) (KO : KindOk K C D j) (hz : Zc (.ref D) d p.2) (hf : ∃ vs, p.2.data = .fields vs)
    (gi : Gl X "isinstance") (m1 : X.mg "isinstance" = none) (i : Nat) (hi : i < 28) (gx : Gl X x) (hx : X.mg x = some (.ref (C i))) (hN : X.N[0]? = some ("_law_e" : Str)) (hv : Vis X.env.scope "_law_e") (hd : (x == ("__debug__" : Str)) = false := by decide) :
    PE X (.Call (.Name "isinstance" q1) [.Name "_law_e" q3, .Name x q2] [] pos) (fun σ H Q => σ[0]? = some (some (.ref p.1)) ∧ XdOk d H ∧ Q (.bl (decide (i = j))) H) :=
  PE.imp (pe_callB (call_isPd hK hp KO.ec KO.cl hz hf) gi m1 (by decide +kernel) (pa_cons (pe_var hN hv) (pa_cons (pe_glob (v := .ref (C i)) gx hx rfl hd) pa_nil))) fun σ H Q q =>
    ⟨.ref p.1, q.1, .ref (C i), .ref (C i), _, rfl, (fun u r => r), KO.kit i hi, q.2.1, q.2.2⟩
theorem mk_count : ∀ j, j < 28 → ((List.range' 0 28).map fun m => decide (m = j)).count true = 1 := by decide +kernel
theorem mk_at {j : Nat} (h : j < 28) : (mk j 0 28)[j]? = some (.bl true) := by
  unfold mk
  rw [List.getElem?_map, List.getElem?_range' h]
  simp
theorem mk_no {j m : Nat} (h : j < 28) (hm : m < j) : (mk j 0 28)[m]? = some (.bl false) := by
  unfold mk
  rw [List.getElem?_map, List.getElem?_range' (by omega)]
  simp only [Option.map_some, Option.some.injEq, V.bl.injEq, decide_eq_false_iff_not]
  omega
section
variable {P : Program} {w : World} {K : PySem.W.Frag} {mg : Str → Option Value} {base : Heap}
def spKind (K : PySem.W.Frag) (C : Nat → Addr) (p : Addr × Obj) : Sp := fun vs H Q _ => ∃ D d j wd, KindOk K C D j ∧ kWords[j]? = some wd ∧ vs = [.ref p.1] ∧ Zc (.ref D) d p.2 ∧ (∃ vs, p.2.data = .fields vs) ∧ XdOk d H ∧ ∀ H', Same H H' → Q (.str wd) H'
theorem ok_l_kind {f : Addr} {fd : FuncData} {k : Nat} {C : Nat → Addr} (F : Fun K "_law_kind" "_law_kind" s_l_kind f fd) (hg : ∀ i, i < 28 → mg (kNames.getD i "") = some (.ref (C i)))
    (m1 : mg "isinstance" = none) (m2 : mg "ValueError" = none) : FnE P w K mg base (k + 1) f fd ["_law_e"] (spKind K C) := by
  refine fnE_mk F sc_l_kind (fun p vs H Q h => ?_) (fun cdv A outer s H vs Q p hr h => ?_)
  · obtain ⟨D, d, j, wd, _, _, rfl, _⟩ := h; rfl
  · obtain ⟨D, d, j, wd, KO, hw, rfl, hz, hf, xd, q⟩ := h
    have EC := KO.ec
    refine ⟨_, pss_cons (ps_set (i := 1) sc_l_kind.nd rfl (.inl rfl) (pe_mkL (pa_m (pe_isE (K := K) (C := C) rfl (List.mem_singleton.mpr rfl) KO hz hf (by rfl) m1 0 (by decide) (by rfl) (hg 0 (by decide)) rfl (Or.inl rfl)) (pa_m (pe_isE (K := K) (C := C) rfl (List.mem_singleton.mpr rfl) KO hz hf (by rfl) m1 1 (by decide) (by rfl) (hg 1 (by decide)) rfl (Or.inl rfl)) (pa_m (pe_isE (K := K) (C := C) rfl (List.mem_singleton.mpr rfl) KO hz hf (by rfl) m1 2 (by decide) (by rfl) (hg 2 (by decide)) rfl (Or.inl rfl)) (pa_m (pe_isE (K := K) (C := C) rfl (List.mem_singleton.mpr rfl) KO hz hf (by rfl) m1 3 (by decide) (by rfl) (hg 3 (by decide)) rfl (Or.inl rfl)) pa_m0)))) (by decide)))
      (pss_cons (ps_set (i := 1) sc_l_kind.nd rfl (.inl rfl) (pe_op op_cat (pv 1) (pe_mkL (pa_m (pe_isE (K := K) (C := C) rfl (List.mem_singleton.mpr rfl) KO hz hf (by rfl) m1 4 (by decide) (by rfl) (hg 4 (by decide)) rfl (Or.inl rfl)) (pa_m (pe_isE (K := K) (C := C) rfl (List.mem_singleton.mpr rfl) KO hz hf (by rfl) m1 5 (by decide) (by rfl) (hg 5 (by decide)) rfl (Or.inl rfl)) (pa_m (pe_isE (K := K) (C := C) rfl (List.mem_singleton.mpr rfl) KO hz hf (by rfl) m1 6 (by decide) (by rfl) (hg 6 (by decide)) rfl (Or.inl rfl)) (pa_m (pe_isE (K := K) (C := C) rfl (List.mem_singleton.mpr rfl) KO hz hf (by rfl) m1 7 (by decide) (by rfl) (hg 7 (by decide)) rfl (Or.inl rfl)) pa_m0)))) (by decide))))
      (pss_cons (ps_set (i := 1) sc_l_kind.nd rfl (.inl rfl) (pe_op op_cat (pv 1) (pe_mkL (pa_m (pe_isE (K := K) (C := C) rfl (List.mem_singleton.mpr rfl) KO hz hf (by rfl) m1 8 (by decide) (by rfl) (hg 8 (by decide)) rfl (Or.inl rfl)) (pa_m (pe_isE (K := K) (C := C) rfl (List.mem_singleton.mpr rfl) KO hz hf (by rfl) m1 9 (by decide) (by rfl) (hg 9 (by decide)) rfl (Or.inl rfl)) (pa_m (pe_isE (K := K) (C := C) rfl (List.mem_singleton.mpr rfl) KO hz hf (by rfl) m1 10 (by decide) (by rfl) (hg 10 (by decide)) rfl (Or.inl rfl)) (pa_m (pe_isE (K := K) (C := C) rfl (List.mem_singleton.mpr rfl) KO hz hf (by rfl) m1 11 (by decide) (by rfl) (hg 11 (by decide)) rfl (Or.inl rfl)) pa_m0)))) (by decide))))
      (pss_cons (ps_set (i := 1) sc_l_kind.nd rfl (.inl rfl) (pe_op op_cat (pv 1) (pe_mkL (pa_m (pe_isE (K := K) (C := C) rfl (List.mem_singleton.mpr rfl) KO hz hf (by rfl) m1 12 (by decide) (by rfl) (hg 12 (by decide)) rfl (Or.inl rfl)) (pa_m (pe_isE (K := K) (C := C) rfl (List.mem_singleton.mpr rfl) KO hz hf (by rfl) m1 13 (by decide) (by rfl) (hg 13 (by decide)) rfl (Or.inl rfl)) (pa_m (pe_isE (K := K) (C := C) rfl (List.mem_singleton.mpr rfl) KO hz hf (by rfl) m1 14 (by decide) (by rfl) (hg 14 (by decide)) rfl (Or.inl rfl)) (pa_m (pe_isE (K := K) (C := C) rfl (List.mem_singleton.mpr rfl) KO hz hf (by rfl) m1 15 (by decide) (by rfl) (hg 15 (by decide)) rfl (Or.inl rfl)) pa_m0)))) (by decide))))
      (pss_cons (ps_set (i := 1) sc_l_kind.nd rfl (.inl rfl) (pe_op op_cat (pv 1) (pe_mkL (pa_m (pe_isE (K := K) (C := C) rfl (List.mem_singleton.mpr rfl) KO hz hf (by rfl) m1 16 (by decide) (by rfl) (hg 16 (by decide)) rfl (Or.inl rfl)) (pa_m (pe_isE (K := K) (C := C) rfl (List.mem_singleton.mpr rfl) KO hz hf (by rfl) m1 17 (by decide) (by rfl) (hg 17 (by decide)) rfl (Or.inl rfl)) (pa_m (pe_isE (K := K) (C := C) rfl (List.mem_singleton.mpr rfl) KO hz hf (by rfl) m1 18 (by decide) (by rfl) (hg 18 (by decide)) rfl (Or.inl rfl)) (pa_m (pe_isE (K := K) (C := C) rfl (List.mem_singleton.mpr rfl) KO hz hf (by rfl) m1 19 (by decide) (by rfl) (hg 19 (by decide)) rfl (Or.inl rfl)) pa_m0)))) (by decide))))
      (pss_cons (ps_set (i := 1) sc_l_kind.nd rfl (.inl rfl) (pe_op op_cat (pv 1) (pe_mkL (pa_m (pe_isE (K := K) (C := C) rfl (List.mem_singleton.mpr rfl) KO hz hf (by rfl) m1 20 (by decide) (by rfl) (hg 20 (by decide)) rfl (Or.inl rfl)) (pa_m (pe_isE (K := K) (C := C) rfl (List.mem_singleton.mpr rfl) KO hz hf (by rfl) m1 21 (by decide) (by rfl) (hg 21 (by decide)) rfl (Or.inl rfl)) (pa_m (pe_isE (K := K) (C := C) rfl (List.mem_singleton.mpr rfl) KO hz hf (by rfl) m1 22 (by decide) (by rfl) (hg 22 (by decide)) rfl (Or.inl rfl)) (pa_m (pe_isE (K := K) (C := C) rfl (List.mem_singleton.mpr rfl) KO hz hf (by rfl) m1 23 (by decide) (by rfl) (hg 23 (by decide)) rfl (Or.inl rfl)) pa_m0)))) (by decide))))
      (pss_cons (ps_set (i := 1) sc_l_kind.nd rfl (.inl rfl) (pe_op op_cat (pv 1) (pe_mkL (pa_m (pe_isE (K := K) (C := C) rfl (List.mem_singleton.mpr rfl) KO hz hf (by rfl) m1 24 (by decide) (by rfl) (hg 24 (by decide)) rfl (Or.inl rfl)) (pa_m (pe_isE (K := K) (C := C) rfl (List.mem_singleton.mpr rfl) KO hz hf (by rfl) m1 25 (by decide) (by rfl) (hg 25 (by decide)) rfl (Or.inl rfl)) (pa_m (pe_isE (K := K) (C := C) rfl (List.mem_singleton.mpr rfl) KO hz hf (by rfl) m1 26 (by decide) (by rfl) (hg 26 (by decide)) rfl (Or.inl rfl)) (pa_m (pe_isE (K := K) (C := C) rfl (List.mem_singleton.mpr rfl) KO hz hf (by rfl) m1 27 (by decide) (by rfl) (hg 27 (by decide)) rfl (Or.inl rfl)) pa_m0)))) (by decide))))
      (pss_cons (ps_set (i := 2) sc_l_kind.nd rfl (.inl rfl) (pe_lst (pa_cons pe_str (pa_cons pe_str (pa_cons pe_str (pa_cons pe_str (pa_cons pe_str (pa_cons pe_str (pa_cons pe_str (pa_cons pe_str (pa_cons pe_str (pa_cons pe_str (pa_cons pe_str (pa_cons pe_str pa_nil))))))))))))))
      (pss_cons (ps_set (i := 2) sc_l_kind.nd rfl (.inl rfl) (pe_op op_cat (pv 2) (pe_lst (pa_cons pe_str (pa_cons pe_str (pa_cons pe_str (pa_cons pe_str (pa_cons pe_str (pa_cons pe_str (pa_cons pe_str (pa_cons pe_str (pa_cons pe_str (pa_cons pe_str pa_nil)))))))))))))
      (pss_cons (ps_set (i := 2) sc_l_kind.nd rfl (.inl rfl) (pe_op op_cat (pv 2) (pe_lst (pa_cons pe_str (pa_cons pe_str (pa_cons pe_str (pa_cons pe_str (pa_cons pe_str (pa_cons pe_str pa_nil)))))))))
      (pss_cons (ps_if (PW.pt (pw_or (pt_cmpR op_ne (pe_bm PySem.F.plainAttrs_list PySem.F.slot_list_count PySem.F.type_list_count mt_lcountB (pv 1) (pa_cons pe_bl pa_nil)) pe_int (nomark _)) (pw_or1 (pt_not (pt_val (pe_callB (call_isPd (K := K) rfl (List.mem_singleton.mpr rfl) EC KO.cl hz hf) (by rfl) m1 (by decide +kernel) (pa_cons (pv 0) (pa_cons (pe_bltn (v := .ty "ValueError") (by rfl) m2 (by decide +kernel) rfl) pa_nil)))))))) (pss_one ps_never) pss_nil)
      (pss_one (ps_ret (pe_ix ix_list (pv 2) (pe_bm PySem.F.plainAttrs_list PySem.F.slot_list_index PySem.F.type_list_index mt_index (pv 1) (pa_cons pe_bl pa_nil)) (fun _ _ => rfl)))))))))))))), ?_⟩
    have big : 1000 ≤ sizeLine := by rw [sizeLine_eq]; decide
    have cat : ∀ {H1 H2 : Hp} {l1 l2 : Addr} {n m : Nat} {Q : VK}, H1 l1 = some (.lst (mk j 0 n)) → Same H1 H2 → H2 l2 = some (.lst (mk j n m)) → n + m ≤ 1000 →
        (∀ H3 l3, Same H2 H3 → H3 l3 = some (.lst (mk j 0 (n + m))) → Q (.ref l3) H3) → rCat (.ref l1) (.ref l2) H2 Q := @fun H1 H2 l1 l2 n m Q h1 e h2 hs q => by
      refine ⟨l1, l2, _, _, rfl, rfl, e _ _ h1, h2, ?_, fun l3 n3 => q _ l3 (same_new n3) (by rw [mk_app]; exact upd_same)⟩
      unfold mk
      rw [List.length_map, List.length_map, List.length_range', List.length_range']; omega
    refine ⟨rfl, xd, fun H1 l1 e1 h1 => ?_⟩
    refine ⟨.ref l1, rfl, rfl, xd.same e1, fun H2 l2 e2 h2 => cat h1 e2 h2 (by decide) fun H3 l3 e3 h3 => ?_⟩
    have s1 := (e1.trans e2).trans e3
    refine ⟨.ref l3, rfl, rfl, xd.same s1, fun H2 l2 e2 h2 => cat h3 e2 h2 (by decide) fun H4 l4 e4 h4 => ?_⟩
    have s1 := (s1.trans e2).trans e4
    refine ⟨.ref l4, rfl, rfl, xd.same s1, fun H2 l2 e2 h2 => cat h4 e2 h2 (by decide) fun H5 l5 e5 h5 => ?_⟩
    have s1 := (s1.trans e2).trans e5
    refine ⟨.ref l5, rfl, rfl, xd.same s1, fun H2 l2 e2 h2 => cat h5 e2 h2 (by decide) fun H6 l6 e6 h6 => ?_⟩
    have s1 := (s1.trans e2).trans e6
    refine ⟨.ref l6, rfl, rfl, xd.same s1, fun H2 l2 e2 h2 => cat h6 e2 h2 (by decide) fun H7 l7 e7 h7 => ?_⟩
    have s1 := (s1.trans e2).trans e7
    refine ⟨.ref l7, rfl, rfl, xd.same s1, fun H2 l2 e2 h2 => cat h7 e2 h2 (by decide) fun H8 l8 e8 h8 => ?_⟩
    have s1 := (s1.trans e2).trans e8
    refine ⟨by show 12 ≤ sizeLine; omega, fun w1 nw1 => ?_⟩
    have s2 := same_new (o := .lst [V.str "work", V.str "line", V.str "kind", V.str "one", V.str "plan", V.str "kinds", V.str "counts", V.str "state", V.str "choice", V.str "tick", V.str "lap", V.str "fitting"]) nw1
    have u1 : (upd H8 w1 (.lst [V.str "work", V.str "line", V.str "kind", V.str "one", V.str "plan", V.str "kinds", V.str "counts", V.str "state", V.str "choice", V.str "tick", V.str "lap", V.str "fitting"])) w1 = some (.lst [V.str "work", V.str "line", V.str "kind", V.str "one", V.str "plan", V.str "kinds", V.str "counts", V.str "state", V.str "choice", V.str "tick", V.str "lap", V.str "fitting"]) := upd_same
    refine ⟨.ref w1, rfl, by show 10 ≤ sizeLine; omega, fun w2 nw2 => ?_⟩
    refine ⟨w1, w2, _, _, rfl, rfl, same_new nw2 _ _ u1, upd_same, by show 12 + 10 ≤ sizeLine; omega, fun w3 nw3 => ?_⟩
    refine ⟨.ref w3, rfl, by show 6 ≤ sizeLine; omega, fun w4 nw4 => ?_⟩
    refine ⟨w3, w4, _, _, rfl, rfl, same_new nw4 _ _ upd_same, upd_same, by show 22 + 6 ≤ sizeLine; omega, fun w5 nw5 => ?_⟩
    have s3 := (((s2.trans (same_new (o := .lst [V.str "worths", V.str "waits", V.str "distance", V.str "two", V.str "rate", V.str "bars", V.str "ticks", V.str "station", V.str "pace", V.str "text"]) nw2)).trans (same_new (o := .lst ([V.str "work", V.str "line", V.str "kind", V.str "one", V.str "plan", V.str "kinds", V.str "counts", V.str "state", V.str "choice", V.str "tick", V.str "lap", V.str "fitting"] ++ [V.str "worths", V.str "waits", V.str "distance", V.str "two", V.str "rate", V.str "bars", V.str "ticks", V.str "station", V.str "pace", V.str "text"])) nw3)).trans (same_new (o := .lst [V.str "nothing", V.str "many", V.str "far", V.str "long", V.str "clash", V.str "soon"]) nw4)).trans (same_new (o := .lst (([V.str "work", V.str "line", V.str "kind", V.str "one", V.str "plan", V.str "kinds", V.str "counts", V.str "state", V.str "choice", V.str "tick", V.str "lap", V.str "fitting"] ++ [V.str "worths", V.str "waits", V.str "distance", V.str "two", V.str "rate", V.str "bars", V.str "ticks", V.str "station", V.str "pace", V.str "text"]) ++ [V.str "nothing", V.str "many", V.str "far", V.str "long", V.str "clash", V.str "soon"])) nw5)
    have h9 := s3 _ _ h8
    have s4 := s1.trans s3
    have hb : mk j 0 (24 + 4) = ((List.range' 0 28).map fun m => decide (m = j)).map V.bl := by
      unfold mk; rw [List.map_map]; rfl
    refine ⟨.ref l8, rfl, .inl ⟨rfl, _, .of h9⟩, l8, _, rfl, rfl, .of (hb ▸ h9), ?_⟩
    rw [mk_count j KO.lt]
    refine ⟨rfl, _, rfl, iteF ?_⟩
    refine ⟨.ref p.1, rfl, .ty "ValueError", .type "ValueError", true, rfl, (fun u r => r), KO.val, xd.same s4, true, rfl, iteF ?_⟩
    refine ⟨.ref w5, rfl, .ref l8, rfl, .inl ⟨rfl, _, .of h9⟩, l8, _, .bl true, j, .bl true, rfl, rfl, .of h9, rfl, ?_, mk_at KO.lt, rfl, fun m z' hm hz' => ?_, ?_⟩
    · unfold mk
      rw [List.all_map, List.all_eq_true]
      exact fun _ _ => rfl
    · rw [mk_no KO.lt hm] at hz'
      rw [← Option.some.inj hz']; rfl
    · refine ⟨w5, _, (j : Nat), .str wd, rfl, rfl, .of upd_same, atI_nat ?_, q _ s4⟩
      show (kWords.map V.str)[j]? = _
      rw [List.getElem?_map, hw]; rfl
end
end Sg
set_option Elab.async false
set_option linter.all false
set_option maxRecDepth 100000
set_option maxHeartbeats 4000000
namespace Sg
open PySem PySem.Spec PyProof.Rows L2 StX
theorem PSs.imp {X : Cx} {sts : List Stmt} {t t' : TS} (h : PSs X sts t) (i : ∀ D σ H, t' D σ H → t D σ H) : PSs X sts t' := ⟨fun pins s σ H D I q => h.run pins s σ H D I (i _ _ _ q)⟩
theorem takes_len {X : Cx} {W : WX} (t : Takes X W) : Takes X (fun cls d σ H => σ.length = X.N.length → W cls d σ H) := fun u s' ⟨a, B, sI, pins, σ, H, cls, d, e, I, nb, up, sky, na, os, ag, w⟩ =>
  t u s' ⟨a, B, sI, pins, σ, H, cls, d, e, I, nb, up, sky, na, os, ag, w I.len⟩
theorem ext_upd {H H' : Hp} {l : Addr} {u : HO} (e : LamX.ExtN H H') (h : ∀ o, H l = some o → ∃ ps, o = .tbl ps) : LamX.ExtN H (upd H' l u) := fun b o g n => by
  by_cases z : b = l
  · subst z
    obtain ⟨ps, rfl⟩ := h o g
    exact absurd rfl (n ps)
  · rw [upd_ne z]; exact e _ _ g n
theorem tabs_upd {T : List (Addr × Str)} {H : Hp} {l : Addr} {xs : List V} {o : HO} (h : H l = some (.lst xs)) (t : LamX.Tabs T H) : LamX.Tabs T (upd H l o) := fun x hx => by
  obtain ⟨ps, h1, h2, h3⟩ := t x hx
  refine ⟨ps, by rw [upd_ne (ne_of h1 h fun z => nomatch z)]; exact h1, h2, fun pos cv hc => ?_⟩
  obtain ⟨c, e1, e2⟩ := h3 pos cv hc
  exact ⟨c, e1, by rw [upd_ne (ne_of e2 h fun z => by unfold LamX.CodeO at z; exact nomatch z)]; exact e2⟩
def lamQ (x : Str) : Str := (x ++ (".<locals>." : Str)) ++ ("<lambda>" : Str)
theorem words_short : ∀ w ∈ kWords, w.length ≤ 20 := by decide +kernel
theorem many_short : ∀ n ∈ List.range 7, (tD [((n : Nat) : Int), 3]).shown.length ≤ 20 ∧ goodB (tD [((n : Nat) : Int), 3]) = true := by decide +kernel
def manyS (n : Nat) : Str := "! many " ++ (tD [((n : Nat) : Int), 3]).shown
/-- repr of a tuple of data, wherever it is asked -/
theorem call_reprU {X : Cx} (hgd : X.A.guards = some []) (hu : X.A.units + 64 < cLine) :
    CallR X (.builtin "repr") (fun xs H Q => ∃ (a : Addr) (ys : List V) (ds : List PyData), xs = [.ref a] ∧ SqT X.K H a ys ∧ DpAll X.K H ys ds ∧ GoodD (.tuple ds) ∧ Q (.str (PyData.tuple ds).shown) H) := by
  intro pins s σ H xs us Q I r h
  obtain ⟨a, ys, ds, rfl, hs, ha, hg, q⟩ := h
  obtain ⟨u, rfl, rx⟩ := vals1 r
  cases rx
  have hdp := hg.dp
  obtain ⟨as, rd⟩ := Dp.reads I _ _ _ (.tup hs ha) rfl
  exact repr_of_reads' (h₀ := s.heap) rd hg.sh (fun z => by rw [Dp.noDict (Dp.tup hs ha)] at z; exact nomatch z) hgd (by omega) (fun _ _ z => z) (fun h' u tk hk => ⟨.str (PyData.tuple ds).shown, H, I.kept hk, ⟨u, rfl⟩, q⟩) hg.short
/-- what the told def wishes of an exception -/
def SaidE (K : PySem.W.Frag) (C : Nat → Addr) (Gap Ct : Addr) (Q : VK) : XK := fun cls d H => ∃ Dc j wd, cls = .ref Dc ∧ KindOk K C Dc j ∧ kWords[j]? = some wd ∧ wd ≠ ("far" : Str) ∧ PySem.W.exmOne K (.ref Dc) (.ref Gap) = some true ∧
  ((wd ≠ ("many" : Str) ∧ d = none ∧ ∀ H', Same H H' → Q (.str ("! " ++ wd)) H') ∨ (wd = ("many" : Str) ∧ Dc = Ct ∧ ∃ dd n, d = some dd ∧ H dd = some (.xd (ManyF n)) ∧ n ≤ 6 ∧ ∀ H', Same H H' → Q (.str (manyS n)) H'))
def TSaid (K : PySem.W.Frag) (C : Nat → Addr) (Gap Ct : Addr) : (XK → Hp → VK → Prop) → Hp → VK → Prop := fun tl H Q =>
  tl (SaidE K C Gap Ct Q) H (fun v H' => ∃ v' d, [v] = [v'] ∧ Aq K H' v' d ∧ GoodD d ∧ Q (.str d.shown) H')
theorem said_gives {X : Cx} {q : Str} {g f1 Gap Ct : Addr} {fd1 : FuncData} {cdg : Value} {k : Nat} {C : Nat → Addr} (hgd : X.A.guards = some []) (hr : Room (k + 1) X.A)
    (XF : XfC X.K Ct) (x1 : PySem.W.findIn X.K (.ref Ct) "amount" = some none) (x2 : PySem.W.findIn X.K (.ref Ct) "limit" = some none)
    (G1 : FnE X.prog X.w X.K X.mg X.base k f1 fd1 ["_law_e"] (spKind X.K C)) (kp1 : PySem.W.keepIn X.K (.ref f1) = true) (b1 : Binds X.K fd1 ["_law_e"] []) (g1 : X.mg "_law_kind" = some (.ref f1))
    (hme : X.mg "GapError" = some (.ref Gap)) (m1 : X.mg "repr" = none) :
    LamX.GivesTo X ["_law_call", "_law_e", "_law_word"] "_law_said" (defScope s_l_said) g cdg (defBody s_l_said) "_law_call" q (TSaid X.K C Gap Ct) := by
  intro f c' s H Q tl act hc h
  have big : 1000 ≤ sizeLine := by rw [sizeLine_eq]; decide
  have hr' := hr.deeper (envOfC "_law_said" (defScope s_l_said) s.heap.objs.size g cdg)
  have hu' : (X.A.deeper (envOfC "_law_said" (defScope s_l_said) s.heap.objs.size g cdg)).units + 64 < cLine := hr'.units
  refine ⟨_, pss_one (ps_try_as (X := (cxOf C8.CX0 X.prog X.w X.K X.mg X.base ["_law_call", "_law_e", "_law_word"] "_law_said" (defScope s_l_said) g cdg X.A X.stack s H C8.E0).nox) (c := .ref Gap) (i := 1)
      (tb := fun W D σ H => ∃ Ech : XK, (∀ cls d σ' H', Ech cls d H' → σ'.length = 3 → W cls d σ' H') ∧ σ[0]? = some (some (.ref f)) ∧ H c' = some (LamX.CodeO c' q) ∧ tl Ech H (fun v H' => ∃ v' d, [v] = [v'] ∧ Aq X.K H' v' d ∧ GoodD d ∧ D.rt (.str d.shown) H'))
      (ts := fun a cls d D σ H => (∃ x y z, σ = [x, y, z]) ∧ σ[1]? = some (some (.ref a)) ∧ ∃ Dc j wd, cls = .ref Dc ∧ KindOk X.K C Dc j ∧ kWords[j]? = some wd ∧ wd ≠ ("far" : Str) ∧
        ((wd ≠ ("many" : Str) ∧ d = none ∧ ∀ H', Same H H' → D.rt (.str ("! " ++ wd)) H') ∨ (wd = ("many" : Str) ∧ Dc = Ct ∧ ∃ dd n, d = some dd ∧ H dd = some (.xd (ManyF n)) ∧ n ≤ 6 ∧ ∀ H', Same H H' → D.rt (.str (manyS n)) H')))
      rfl rfl sc_l_said.nd rfl rfl ⟨by rfl, by decide, .inl hme⟩ LamX.takes0 (fun W pn xe tk _ => ?_) (fun a oe cls d pn hz hf => ?_)), ?_⟩
  · refine ⟨fun pins s' σ H' D I h' => ?_⟩
    obtain ⟨Ech, hW, h1, h2, h3⟩ := h'
    have hp := fun p1 p2 => act _ pn xe Ech p1 p2 (takes_len tk) hW
    refine PSs.run (pss_one (ps_ret (pe_callB (call_reprA (X := ((cxOf C8.CX0 X.prog X.w X.K X.mg X.base ["_law_call", "_law_e", "_law_word"] "_law_said" (defScope s_l_said) g cdg X.A X.stack s H C8.E0).nox).tr pn xe) hgd (j := k) ⟨hr'.hd, hr'.dp, hr'.un⟩) (by rfl) m1 (by decide +kernel) (pa_cons (hp _ _) pa_nil)))) pins s' σ H' D I ⟨h1, h2, h3⟩
  · refine PSs.imp (pss_cons (ps_set (i := 2) sc_l_said.nd rfl (.inl rfl) (pe_callE G1 List.mem_cons_self ⟨hr'.dp, hr'.un⟩ (by rfl) g1 kp1 b1 (pa_cons (pv 1) pa_nil)))
      (pss_cons (ps_if (pt_cmpR op_eq (pv 2) pe_str (nomark _)) (pss_one (ps_ret (pe_op op_add_str pe_str (pe_callB (call_reprU hgd hu') (by rfl) m1 (by decide +kernel) (pa_cons (pe_tup (pa_cons (pe_xf XF x1 hz hf (pv 1)) (pa_cons (pe_xf XF x2 hz hf (pv 1)) pa_nil))) pa_nil))))) pss_nil)
      (pss_cons (ps_if (pt_cmpR op_eq (pv 2) pe_str (nomark _)) (pss_one ps_never) pss_nil)
      (pss_one (ps_ret (pe_op op_add_str pe_str (pv 2))))))) fun D σ H h => ?_
    obtain ⟨⟨x, y, z, rfl⟩, hy, Dc, j, wd, rfl, KO, hw, n2, h⟩ := h
    have d2 : decide (V.str wd = V.str "far") = false := decide_eq_false fun z => n2 (V.str.inj z)
    have ls := words_short wd (List.mem_of_getElem? hw)
    rcases h with ⟨n1, rfl, qq⟩ | ⟨rfl, rfl, dd, n, rfl, hdd, hn, qq⟩
    · refine ⟨.ref a, hy, Dc, none, j, wd, KO, hw, rfl, hz, hf, .no, fun H' e => ?_⟩
      have d1 : decide (V.str wd = V.str "many") = false := decide_eq_false fun z => n1 (V.str.inj z)
      refine ⟨.str wd, rfl, rfl, _, rfl, ?_⟩
      rw [d1]
      refine iteF ⟨.str wd, rfl, rfl, _, rfl, ?_⟩
      rw [d2]
      refine iteF ⟨.str wd, rfl, _, _, rfl, rfl, ?_, qq _ e⟩
      show 2 + wd.length ≤ _
      omega
    · refine ⟨.ref a, hy, Dc, some dd, j, "many", KO, hw, rfl, hz, hf, fun dd' hd' => ⟨_, Option.some.inj hd' ▸ hdd⟩, fun H' e => ?_⟩
      refine ⟨.str "many", rfl, rfl, _, rfl, ?_⟩
      rw [decide_eq_true rfl]
      have hdd' := e _ _ hdd
      obtain ⟨hs, hg⟩ := many_short n (List.mem_range.mpr (by omega))
      refine iteT ⟨.ref a, hy, rfl, rfl, dd, ManyF n, .int (n : Nat), rfl, hdd', rfl, .ref a, hy, rfl, rfl, dd, ManyF n, .int 3, rfl, hdd', rfl, by show 2 ≤ sizeLine; omega, fun t nt => ?_⟩
      refine ⟨t, _, [.int (n : Nat), .int 3], rfl, .of upd_same, .cons (.int _) (.cons (.int 3) .nil), good_by hg, _, _, rfl, rfl, ?_, qq _ (e.trans (same_new nt))⟩
      show 7 + (tD [((n : Nat) : Int), 3]).shown.length ≤ _
      omega
  · refine ⟨SaidE X.K C Gap Ct Q, fun cls d σ' H' ⟨Dc, j, wd, e1, KO, hw, n2, ex, qq⟩ hl => ?_, rfl, hc, h⟩
    obtain ⟨x, y, z, rfl⟩ : ∃ x y z, σ' = [x, y, z] := by
      match σ', hl with
      | [x, y, z], _ => exact ⟨x, y, z, rfl⟩
    rw [e1]
    exact ⟨true, ex, fun _ a ha => ⟨⟨_, _, _, rfl⟩, rfl, Dc, j, wd, rfl, KO, hw, n2, qq⟩, fun z => nomatch z⟩
structure SaidOk (K : PySem.W.Frag) (C : Nat → Addr) (Gap D : Addr) (j : Nat) (wd : Str) : Prop where
  ko : KindOk K C D j
  w : kWords[j]? = some wd
  n2 : wd ≠ ("far" : Str)
  ex : PySem.W.exmOne K (.ref D) (.ref Gap) = some true
theorem SaidOk.said {K : PySem.W.Frag} {C : Nat → Addr} {Gap Ct D : Addr} {j : Nat} {wd : Str} (h : SaidOk K C Gap D j wd) (n1 : wd ≠ ("many" : Str)) {Q : VK} {H : Hp} (q : ∀ H', Same H H' → Q (.str ("! " ++ wd)) H') : SaidE K C Gap Ct Q (.ref D) none H :=
  ⟨D, j, wd, rfl, h.ko, h.w, h.n2, h.ex, .inl ⟨n1, rfl, q⟩⟩
theorem SaidOk.many {K : PySem.W.Frag} {C : Nat → Addr} {Gap D : Addr} {j : Nat} (h : SaidOk K C Gap D j "many") {Q : VK} {H : Hp} {dd : Addr} {n : Nat} (hd : H dd = some (.xd (ManyF n))) (hn : n ≤ 6) (q : ∀ H', Same H H' → Q (.str (manyS n)) H') : SaidE K C Gap D Q (.ref D) (some dd) H :=
  ⟨D, j, _, rfl, h.ko, h.w, h.n2, h.ex, .inr ⟨rfl, rfl, dd, n, rfl, hd, hn, q⟩⟩
end Sg
set_option Elab.async false
set_option linter.all false
set_option maxRecDepth 100000
set_option maxHeartbeats 4000000
namespace Sg
open PySem PySem.Spec PyProof.Rows L2 StX
theorem weight_loop (args : Args) : (Code.builtin "list.__repr__.loop" args).weight = 1 := by
  unfold Code.weight
  rw [isGuard_list_loop]
  simp [Code.frames, Code.isCreation, Code.isCaller, Code.isFrame]
/-- repr of a list of one Line -/
theorem call_reprLn {X : Cx} {k : Nat} {C : Addr} (M : Meths2 X.prog X.w X.K X.mg X.base k C) (hgd : X.A.guards = some []) (hr : Room (k + 2) X.A) :
    CallR X (.builtin "repr") (fun xs H Q => ∃ (a x : Addr) (ws : List (List Int)), xs = [.ref a] ∧ SqL X.K H a [.ref x] ∧ LineAt X.K C H x ws ∧ ∀ H', Same H H' → Q (.str (listText [word ws.length])) H') := by
  have big : 2000 ≤ sizeLine := by rw [sizeLine_eq]; decide
  intro pins s σ H xs us Q I r h
  obtain ⟨a, x, ws, rfl, hs, hL, q⟩ := h
  obtain ⟨u, rfl, rx⟩ := vals1 r
  cases rx
  obtain ⟨its, rv, ⟨oa, na, ho, hc, hdn, hd⟩, hz⟩ := I.list hs
  obtain ⟨y, rfl, ry⟩ := vals1 rv
  cases ry
  have hu := hr.un
  have hwl : (word ws.length).length ≤ 20 := by
    have h1 := hL.good.least
    have h2 := hL.good.few
    have : ws.length = 1 ∨ ws.length = 2 ∨ ws.length = 3 := by omega
    rcases this with e | e | e <;> rw [e] <;> decide +kernel
  obtain ⟨tw, htw⟩ : ∃ tw, tw = word ws.length := ⟨_, rfl⟩
  rw [← htw] at hwl q
  have hws : tw.length ≤ sizeLine := by omega
  refine call_repr_slot (by omega) ⟨oa, ho, hc⟩ F.slot_list_repr.toG ?_
  refine wpAny_call (codeAny_call_builtin F.slot_list_repr.plain F.entry_list_repr (F.slot_list_repr.check _ _ _ _ _ _ _ _ ⟨oa, ho, hc⟩ (F.args_list_repr_1 _) ?_))
  refine wpAny_list_repr_head (A := X.A.in1.in1) hgd (fun v rest kw hm => nomatch hm) ho hd ?_
  refine wpAny_bind (m := newList []) (wpAny_newObj_type ?_)
  refine wpAny_pure ⟨F.quiet_list_repr_loop _, ?_⟩
  have hn : H s.heap.objs.size = none := I.hok.fresh (Nat.le_refl _)
  have s0 : Same H (upd H s.heap.objs.size (.lst [])) := same_new hn
  have oa1 : (s.heap.push { cls := .type "list", data := .seq #[] }).get? a = some oa := Heap.get?_push_of_some _ ho
  have I1 : Inv X pins σ (upd H s.heap.objs.size (.lst [])) { s with heap := s.heap.push { cls := .type "list", data := .seq #[] } } :=
    I.laid (t' := s.toks) (o := .lst []) (fun b u e => Heap.get?_push_of_some _ e) (Nat.le_refl _) ⟨Nat.zero_le _, [], _, .nil, Heap.get?_push_size _ rfl⟩
  have hL1 : LineAt X.K C (upd H s.heap.objs.size (.lst [])) x ws := hL.stay (.of s0)
  have hP : (upd H s.heap.objs.size (.lst [])) s.heap.objs.size = some (.lst []) := upd_same
  have hs1 : SqL X.K (upd H s.heap.objs.size (.lst [])) a [.ref x] := s0.seq hs
  generalize upd H s.heap.objs.size (.lst []) = H1 at s0 I1 hL1 hP hs1 ⊢
  generalize s.heap.objs.size = P at hn hP I1 ⊢
  generalize hps : s.heap.push { cls := .type "list", data := .seq #[] } = hp1 at I1 oa1 ⊢
  have N1 : ∀ args, Near X.A (X.A.in1.under (.builtin "list.__repr__.loop" args)) 2 := fun args => near_under (Near.refl X.A).in1 (weight_loop args) (units_under_list_loop _ _)
  refine codeAny_builtin F.entry_list_repr_loop ?_
  show wpAny _ _ (Builtin.«list.__repr__.loop» ⟨[.ref a, .int 0 0, .ref P, .int 0 0], []⟩) _ _ _
  rw [repr_loop_tree]
  refine wpAny_bind (wpAny_listItems oa1 hd ?_)
  have h0 : ([Value.ref x].toArray)[Int.toNat 0]? = some (.ref x) := rfl
  simp only [h0]
  have rl : Rep X pins σ H1 (X.A.in1.under (.builtin "list.__repr__.loop" ⟨[.ref a, rawInt 0, .ref P, rawInt ((0 : Nat) : Int)], []⟩)) (.ref x) (word ws.length) := Rep.line M (hr.mono (by omega)) (N1 _) (by decide) hL1
  rw [← htw] at rl
  clear htw
  refine wpAny_bind (wpAny_holding ?_)
  refine rl (Int.toNat 0 + 1) (.ref x) _ _ _ ?_ I1 rfl fun s2 I2 => ?_
  · show 0 + 1 + _ ≤ _
    omega
  refine wpAny_bind (wpAny_mkStr ?_ hws)
  refine wpAny_bind ?_
  show wpAny _ _ (updateSeq P _) _ _ _
  have okP : ObjOk X.prog X.w H1 s2.heap P (.lst []) := I2.hok P _ hP
  obtain ⟨_, its2, n2, rv2, hP2⟩ := okP
  cases rv2
  refine wpAny_updateSeq hP2 rfl (wpAny_pure ⟨F.quiet_list_repr_loop _, ?_⟩) (Nat.zero_le _)
  obtain ⟨oa2, na2, ho2, hc2, _, hd2⟩ : ∃ o n, s2.heap.get? a = some o ∧ o.cls = .type "list" ∧ True ∧ o.data = .seq #[.ref x] n := by
    obtain ⟨its3, rv3, ⟨o3, n3, g1, g2, g3, g4⟩, _⟩ := I2.list hs1
    obtain ⟨y3, rfl, ry3⟩ := vals1 rv3
    cases ry3
    exact ⟨o3, n3, g1, g2, trivial, g4⟩
  have neaP : P ≠ a := fun z => by
    subst z
    rw [hP2] at ho2
    cases ho2
    cases hd2
  have I3 : Inv X pins σ (upd H1 P (.lst [.str (tw)])) { s2 with heap := s2.heap.update P (Obj.mapSeq fun xs => xs.push (.str (tw) s2.toks)), toks := s2.toks + 1 } := by
    refine I2.write (t' := s2.toks + 1) (x := P) (e := P) (o := .lst [.str (tw)]) (by rw [hP]; trivial) (.inl rfl) (fun b u nb e => (Heap.get?_update_other _ _ (Ne.symm nb)).trans e) ⟨_, Heap.get?_update_self _ hP2 rfl⟩ ?_
    exact ⟨by show 1 ≤ sizeLine; omega, [.str (tw) s2.toks], _, .cons ⟨_, rfl⟩ .nil, Heap.get?_update_self _ hP2 rfl⟩
  have ho4 : (s2.heap.update P (Obj.mapSeq fun xs => xs.push (.str tw s2.toks))).get? a = some oa2 := (Heap.get?_update_other _ _ neaP).trans ho2
  have hP4 := Heap.get?_update_self (Obj.mapSeq fun xs => xs.push (.str tw s2.toks)) hP2 rfl
  refine codeAny_builtin F.entry_list_repr_loop ?_
  show wpAny _ _ (Builtin.«list.__repr__.loop» ⟨[.ref a, .int (0 + 1) 0, .ref P, .int _ 0], []⟩) _ _ _
  rw [repr_loop_tree]
  refine wpAny_bind (wpAny_listItems ho4 hd2 ?_)
  have h1 : (#[Value.ref x] : Array Value)[Int.toNat (0 + 1)]? = none := rfl
  simp only [h1]
  unfold reprEnd
  refine wpAny_bind (wpAny_listItems hP4 rfl ?_)
  have e1 : ((#[] : Array Value).push (.str tw s2.toks)).toList = strValues [(tw, s2.toks)] := rfl
  show wpAny _ _ (do
      let text ← forIn ((#[] : Array Value).push (.str tw s2.toks)).toList.zipIdx (Str.ofString "[") reprBody
      retStr (text ++ Str.ofString "]")) _ _ _
  rw [e1, repr_fold]
  refine wpAny_bind (wpAny_pure ?_)
  have hz3 : (listText [tw]).length ≤ sizeLine := by
    have e : (listText [tw]) = (("[" ++ "") ++ tw) ++ "]" := rfl
    rw [e, strLen_append, strLen_append, strLen_append]
    show 1 + 0 + tw.length + 1 ≤ _
    omega
  refine wpAny_bind (wpAny_mkStr (wpAny_pure ?_) hz3)
  exact ⟨listText [tw], _, rfl, .str (listText [tw]), _, I3.tok _, ⟨_, rfl⟩, q _ (fun b o hb => by
    have nb : b ≠ P := ne_of_none hb hn
    rw [upd_ne nb]
    exact s0 _ _ hb)⟩
end Sg
set_option Elab.async false
set_option linter.all false
set_option maxRecDepth 100000
set_option maxHeartbeats 4000000
namespace Sg
open PySem PySem.Spec PyProof.Rows L2 StX
section
variable {P : Program} {w : World} {K : PySem.W.Frag} {mg : Str → Option Value} {base : Heap}
/-! ### _law_work -/
def spWorkP : Sp := fun vs H Q _ => ∃ (p : Addr) (m st : Int), vs = [.ref p, .int m, .int st] ∧ PenAt H p ∧ 1 ≤ m ∧ m ≤ 60 ∧ 1 ≤ st ∧ st ≤ 10 ∧
  ∀ H' t (ns : List Int), PenAt H' p → But p H H' → H t = none → H' t = some (.tup (ns.map V.int)) → IsWork ns → (ns.length : Int) ≤ m → (∀ x ∈ ns, x < st) → Q (.ref t) H'
theorem ok_l_workP {f f1 : Addr} {fd fd1 : FuncData} {k : Nat} (F : Fun K "_law_work" "_law_work" s_l_work f fd)
    (G1 : FnOk P w K mg base CX0 k f1 fd1 ["_law_pen_here", "_law_many"] spDraw) (kp1 : PySem.W.keepIn K (.ref f1) = true) (b1 : Binds K fd1 ["_law_pen_here", "_law_many"] []) (g1 : mg "_law_draw" = some (.ref f1))
    (m1 : mg "range" = none) (m2 : mg "tuple" = none) :
    FnOk P w K mg base CX0 (k + 1) f fd ["_law_pen_here", "_law_most", "_law_stations"] spWorkP := by
  refine F.ok sc_l_work (fun vs H Q E h => ?_) (fun cdv A outer s H vs Q E hr h => ?_)
  · obtain ⟨p, m, st, rfl, _⟩ := h; rfl
  · obtain ⟨p, m, st, rfl, hp, hm1, hm2, hs1, hs2, q⟩ := h
    refine ⟨_, pss_cons (ps_asg (pe_tup (pa_cons (pe_call G1 hr (by rfl) g1 kp1 b1 .nil pass0 (pa_cons (pv 0) (pa_cons pe_int pa_nil)))
        (pa_cons (pe_op op_add pe_int (pe_call G1 hr (by rfl) g1 kp1 b1 .nil pass0 (pa_cons (pv 0) (pa_cons (pv 1) pa_nil)))) pa_nil)))
        (pg_tup rfl (pgs_cons (pg_name (i := 3) sc_l_work.nd rfl (.inr rfl)) (pgs_cons (pg_name (i := 4) sc_l_work.nd rfl (.inl rfl)) pgs_nil))))
      (pss_cons (ps_setLc (i := 5) (own := [("_law_turn", 6)]) (g := gName 6) (tt := tYes) rfl sc_l_work.nd rfl rfl (sw_true rfl rfl rfl (by decide +kernel)) (pi_range1 (by rfl) m1 (pa_cons (pv 4) pa_nil))
          (blkOk_by (N := ["_law_pen_here", "_law_most", "_law_stations", "_law_way", "_law_long", "_law_items", "_law_turn"]) (sc := defScope s_l_work) (by decide +kernel))
          (fun _ _ _ _ _ => pg_name (i := 6) sc_l_work.nd rfl (Or.inl rfl)) (fun _ _ _ _ _ => pts_nil)
          (fun _ _ _ _ _ => pe_ifExp (pt_cmpR op_ge (pe_call G1 hr (by rfl) g1 kp1 b1 .nil pass0 (pa_cons (pv 0) (pa_cons pe_int pa_nil))) (pv 3) (nomark _))
            (pe_call G1 hr (by rfl) g1 kp1 b1 .nil pass0 (pa_cons (pv 0) (pa_cons (pv 2) pa_nil))) (pe_un un_neg pe_int)))
      (pss_cons (ps_asg (pe_tup (pa_cons (pe_call G1 hr (by rfl) g1 kp1 b1 .nil pass0 (pa_cons (pv 0) (pa_cons (pv 2) pa_nil))) (pa_cons (pe_call G1 hr (by rfl) g1 kp1 b1 .nil pass0 (pa_cons (pv 0) (pa_cons (pv 2) pa_nil))) pa_nil)))
        (pg_tup rfl (pgs_cons (pg_sub (pv 5) pe_int set_list) (pgs_cons (pg_sub (pv 5) (pe_un un_neg pe_int) set_list) pgs_nil))))
      (pss_one (ps_ret (pe_callTy call_tuple_of (by rfl) m2 (by decide +kernel) (pa_cons (pv 5) pa_nil)))))), ?_⟩
    refine ⟨.ref p, rfl, p, 3, rfl, hp, by decide, by decide, fun H1 way a1 a2 p1 e1 => ?_⟩
    refine ⟨.ref p, rfl, .int m, rfl, p, m, rfl, p1, by omega, by omega, fun H2 l0 a3 a4 p2 e2 => ?_⟩
    refine ⟨1, l0, rfl, rfl, by show 2 ≤ sizeLine; decide, fun T nT => ?_⟩
    have e12 := e1.trans e2
    have p3 : PenAt (upd H2 T (.tup [.int way, .int (1 + l0)])) p := p2.upd (p2.ne nT)
    have e3 : But p H (upd H2 T (.tup [.int way, .int (1 + l0)])) := e12.trans (.of (same_new nT))
    refine ⟨T, _, rfl, .of upd_same, rfl, _, _, rfl, _, _, rfl, rfl, ?_⟩
    generalize hH3 : upd H2 T (.tup [.int way, .int (1 + l0)]) = H3 at p3 e3 ⊢
    refine ⟨.int (1 + l0), rfl, 1 + l0, rfl, by omega, by omega, fun D hD => ?_⟩
    have n3 : p ≠ D := p3.ne hD
    refine lc_range (lo := 0) (n := (1 + l0).toNat) (fun i H' => PenAt H' p ∧ But p H3 H' ∧ ∃ ns : List Int, ns.length = i ∧ (∀ x ∈ ns, -1 ≤ x ∧ x < st) ∧ H' D = some (.lst (ns.map V.int)))
      ⟨p3.upd n3, .of (same_new hD), [], rfl, (fun x hx => nomatch hx), upd_same⟩ (fun i H' hi h => ?_) (fun H' h => ?_)
    · obtain ⟨p4, e4, ns, hlen, hall, hDl⟩ := h
      refine ⟨rfl, ?_⟩
      have fin : ∀ (H'' : Hp) (r : Int), PenAt H'' p → But p H' H'' → -1 ≤ r → r < st → ∃ acc, H'' D = some (.lst acc) ∧ acc.length < sizeLine ∧
          (PenAt (upd H'' D (.lst (acc ++ [V.int r]))) p ∧ But p H3 (upd H'' D (.lst (acc ++ [V.int r]))) ∧ ∃ ns : List Int, ns.length = i + 1 ∧ (∀ x ∈ ns, -1 ≤ x ∧ x < st) ∧ (upd H'' D (.lst (acc ++ [V.int r]))) D = some (.lst (ns.map V.int))) := by
        intro H'' r p5 e5 r1 r2
        have hD5 := e5 _ _ (Ne.symm n3) hDl
        refine ⟨_, hD5, ?_, p5.upd n3, fun b o n e => ?_, ns ++ [r], ?_, fun x hx => ?_, ?_⟩
        · rw [List.length_map]
          exact small1000 (by omega)
        · rw [upd_ne (ne_of_none e hD)]
          exact e5 _ _ n (e4 _ _ n e)
        · rw [List.length_append]; show ns.length + 1 = i + 1; omega
        · rcases List.mem_append.mp hx with z | z
          · exact hall x z
          · rw [List.mem_singleton.mp z]; exact ⟨r1, r2⟩
        · rw [upd_same, List.map_append]; rfl
      refine ⟨.ref p, rfl, p, 3, rfl, p4, by decide, by decide, fun H5 r b1 b2 p5 e5 => ?_⟩
      refine ⟨.int way, rfl, r, way, rfl, rfl, _, rfl, ite2 (fun _ => ?_) (fun _ => ?_)⟩
      · exact ⟨.ref p, rfl, .int st, rfl, p, st, rfl, p5, by omega, by omega, fun H6 r' c1 c2 p6 e6 => fin H6 r' p6 (e5.trans e6) (by omega) c2⟩
      · exact ⟨1, rfl, fin H5 (-1) p5 e5 (by omega) (by omega)⟩
    · obtain ⟨p4, e4, ns, hlen, hall, hDl⟩ := h
      refine ⟨.ref p, rfl, .int st, rfl, p, st, rfl, p4, by omega, by omega, fun H5 r c1 c2 p5 e5 => ?_⟩
      refine ⟨.ref p, rfl, .int st, rfl, p, st, rfl, p5, by omega, by omega, fun H6 r' c3 c4 p6 e6 => ?_⟩
      refine ⟨by show 2 ≤ sizeLine; decide, fun U nU => ?_⟩
      have hD6 := (e5.trans e6) _ _ (Ne.symm n3) hDl
      have nDU : D ≠ U := ne_of_none hD6 nU
      have hl0 : 0 < ns.length := by omega
      have hpos : ((ns.map V.int).length : Nat) = ns.length := by rw [List.length_map]
      refine ⟨U, _, rfl, .of upd_same, rfl, _, _, rfl, ?_⟩
      have hD7 : (upd H6 U (.tup [.int r, .int r'])) D = some (.lst (ns.map V.int)) := by rw [upd_ne nDU]; exact hD6
      have ix0 : ixN (ns.map V.int).length 0 = some 0 := by
        unfold ixN
        rw [if_pos (by decide), if_pos (by rw [hpos]; omega)]; rfl
      refine ⟨.ref D, rfl, D, _, 0, 0, rfl, rfl, hD7, ix0, ?_⟩
      have hD8 : (upd (upd H6 U (.tup [.int r, .int r'])) D (.lst ((ns.map V.int).set 0 (.int r)))) D = some (.lst ((ns.map V.int).set 0 (.int r))) := upd_same
      have ix1 : ixN ((ns.map V.int).set 0 (.int r)).length (-1) = some (ns.length - 1) := by
        unfold ixN
        rw [List.length_set, hpos, if_neg (by decide), if_pos (by omega)]
        congr 1
        omega
      refine ⟨_, _, rfl, .ref D, rfl, 1, rfl, D, _, -1, ns.length - 1, rfl, rfl, hD8, ix1, rfl, ?_⟩
      have eL : (((ns.map V.int).set 0 (.int r)).set (ns.length - 1) (.int r')) = (((ns.set 0 r).set (ns.length - 1) r').map V.int) := by rw [List.map_set, List.map_set]
      rw [eL]
      have hD9 : (upd (upd (upd H6 U (.tup [.int r, .int r'])) D (.lst ((ns.map V.int).set 0 (.int r)))) D (.lst (((ns.set 0 r).set (ns.length - 1) r').map V.int))) D = some (.lst (((ns.set 0 r).set (ns.length - 1) r').map V.int)) := upd_same
      have mem : ∀ x ∈ ((ns.set 0 r).set (ns.length - 1) r'), -1 ≤ x ∧ x < st := by
        intro x hx
        rcases List.mem_or_eq_of_mem_set hx with z | z
        · rcases List.mem_or_eq_of_mem_set z with z | z
          · exact hall x z
          · rw [z]; exact ⟨by omega, c2⟩
        · rw [z]; exact ⟨by omega, c4⟩
      have len' : ((ns.set 0 r).set (ns.length - 1) r').length = ns.length := by rw [List.length_set, List.length_set]
      refine ⟨.ref D, rfl, D, _, rfl, .inl ⟨.of hD9, fun t nt => ?_⟩⟩
      refine q _ t ((ns.set 0 r).set (ns.length - 1) r') ?_ ?_ ?_ upd_same ⟨by omega, by omega, fun x hx => ?_, fun x hx => ?_, fun x hx => ?_⟩ (by omega) (fun x hx => (mem x hx).2)
      · refine PenAt.upd (PenAt.upd (PenAt.upd (p6.upd (p6.ne nU)) n3) n3) (PenAt.ne (PenAt.upd (PenAt.upd (p6.upd (p6.ne nU)) n3) n3) nt)
      · refine fun b o n e => ?_
        have z := (e5.trans e6) _ _ n (e4 _ _ n (e3 _ _ n e))
        have nbD : b ≠ D := ne_of_none (e3 _ _ n e) hD
        have nbU : b ≠ U := ne_of_none z nU
        rw [upd_ne (ne_of_none (show (upd (upd (upd H6 U (.tup [.int r, .int r'])) D (.lst ((ns.map V.int).set 0 (.int r)))) D (.lst (((ns.set 0 r).set (ns.length - 1) r').map V.int))) b = some o by rw [upd_ne nbD, upd_ne nbD, upd_ne nbU]; exact z) nt), upd_ne nbD, upd_ne nbD, upd_ne nbU]
        exact z
      · -- t is new
        have nt6 : H6 t = none := by
          have z := nt
          have htD : t ≠ D := fun z' => by rw [z', hD9] at z; exact nomatch z
          rw [upd_ne htD, upd_ne htD] at z
          by_cases htU : t = U
          · rw [htU]; exact nU
          · rwa [upd_ne htU] at z
        exact hp.free p6 (e3.trans (e4.trans (e5.trans e6))) nt6
      · exact ⟨(mem x hx).1, by have := (mem x hx).2; omega⟩
      · have : x = r ∨ x = r' := by
          rw [List.getElem?_set] at hx
          split at hx
          · rw [if_pos (by rw [List.length_set]; omega)] at hx
            exact .inr (Option.some.inj hx).symm
          · rw [List.getElem?_set, if_pos rfl, if_pos hl0] at hx
            exact .inl (Option.some.inj hx).symm
        omega
      · rw [len', List.getElem?_set, if_pos rfl, if_pos (by rw [List.length_set]; omega)] at hx
        have := Option.some.inj hx
        omega
theorem len_cases {ws : List (List Int)} (h : GoodL ws) : (∃ a, ws = [a]) ∨ (∃ a b, ws = [a, b]) ∨ ∃ a b c, ws = [a, b, c] := by
  have h1 := h.least
  have h2 := h.few
  match ws, h1, h2 with
  | [a], _, _ => exact .inl ⟨a, rfl⟩
  | [a, b], _, _ => exact .inr (.inl ⟨a, b, rfl⟩)
  | [a, b, c], _, _ => exact .inr (.inr ⟨a, b, c, rfl⟩)
  | _ :: _ :: _ :: _ :: _, _, z => simp at z
/-! ### _law_made -/
def spMade (K : PySem.W.Frag) (C : Addr) : Sp := fun vs H Q _ => ∃ (t : Addr) (ws : List (List Int)), vs = [.ref t] ∧ Tp K H (.ref t) (.tuple (tDs ws)) ∧ GoodL ws ∧ ∀ H' x, Same H H' → H x = none → LineAt K C H' x ws → Q (.ref x) H'
theorem ok_made {f f1 C : Addr} {fd : FuncData} {k : Nat} (F : Fun K "_law_made" "_law_made" s_l_made f fd) (T : LC K mg C) (M : Mk K C f1) (G : FnR P w K mg base CX0 k f1 (spInit K C)) (m1 : mg "len" = none) :
    FnOk P w K mg base CX0 (k + 2) f fd ["_law_works_here"] (spMade K C) := by
  refine F.ok sc_l_made (fun vs H Q E h => ?_) (fun cdv A outer s H vs Q E hr h => ?_)
  · obtain ⟨t, ws, rfl, _⟩ := h; rfl
  · obtain ⟨t, ws, rfl, hW, hg, q⟩ := h
    refine ⟨_, pss_cons (ps_if (pt_cmpR op_eq (pe_callB call_len_seq (by rfl) m1 PySem.boot_len (pa_cons (pv 0) pa_nil)) pe_int (nomark _))
        (pss_one (ps_ret (pe_makeR M G hr (by rfl) T.mgC pass0 (pa_cons (pe_ix ix_tup (pv 0) pe_int (fun _ _ => rfl)) pa_nil)))) pss_nil)
      (pss_one (ps_ret (pe_ifExp (pt_cmpR op_eq (pe_callB call_len_seq (by rfl) m1 PySem.boot_len (pa_cons (pv 0) pa_nil)) pe_int (nomark _))
        (pe_makeR M G hr (by rfl) T.mgC pass0 (pa_cons (pe_ix ix_tup (pv 0) pe_int (fun _ _ => rfl)) (pa_cons (pe_ix ix_tup (pv 0) pe_int (fun _ _ => rfl)) pa_nil)))
        (pe_makeR M G hr (by rfl) T.mgC pass0 (pa_cons (pe_ix ix_tup (pv 0) pe_int (fun _ _ => rfl)) (pa_cons (pe_ix ix_tup (pv 0) pe_int (fun _ _ => rfl)) (pa_cons (pe_ix ix_tup (pv 0) pe_int (fun _ _ => rfl)) pa_nil))))))), ?_⟩
    obtain ⟨_, xs, e, hS, hT⟩ := hW.toTup
    cases e
    have fin : ∀ z dz, H z = none → H dz = none → dz ≠ z → spInit K C (V.ref z :: xs) (upd (upd H dz (.own z)) z (.ins C dz [])) (fun v H2 => v = .non ∧ Q (.ref z) H2) E0 := make_line hT hg q
    have il : ∀ n : Nat, decide (V.int ((n : Nat) : Int) = V.int 1) = decide (n = 1) := fun n => by
      by_cases h : n = 1
      · subst h; rfl
      · rw [decide_eq_false h, decide_eq_false fun z => h (by have := V.int.inj z; omega)]
    have il2 : ∀ n : Nat, decide (V.int ((n : Nat) : Int) = V.int 2) = decide (n = 2) := fun n => by
      by_cases h : n = 2
      · subst h; rfl
      · rw [decide_eq_false h, decide_eq_false fun z => h (by have := V.int.inj z; omega)]
    refine ⟨.ref t, rfl, t, xs, rfl, .inr hS, rfl, _, rfl, ?_⟩
    rw [il]
    rcases len_cases hg with ⟨a, rfl⟩ | ⟨a, b, rfl⟩ | ⟨a, b, c, rfl⟩
    · obtain ⟨x, rfl⟩ : ∃ x, xs = [x] := by
        have := hT.len
        match xs, this with
        | [x], _ => exact ⟨x, rfl⟩
      rw [show decide ([x].length = 1) = true from rfl]
      exact iteT ⟨.ref t, rfl, t, _, 0, x, rfl, rfl, hS, atI0, fin⟩
    · obtain ⟨x, y, rfl⟩ : ∃ x y, xs = [x, y] := by
        have := hT.len
        match xs, this with
        | [x, y], _ => exact ⟨x, y, rfl⟩
      rw [show decide ([x, y].length = 1) = false from rfl]
      refine iteF ⟨.ref t, rfl, t, _, rfl, .inr hS, rfl, _, rfl, ?_⟩
      rw [il2, show decide ([x, y].length = 2) = true from rfl]
      exact iteT ⟨.ref t, rfl, t, _, 0, x, rfl, rfl, hS, atI0, .ref t, rfl, t, _, 1, y, rfl, rfl, hS, atI1, fin⟩
    · obtain ⟨x, y, z, rfl⟩ : ∃ x y z, xs = [x, y, z] := by
        have := hT.len
        match xs, this with
        | [x, y, z], _ => exact ⟨x, y, z, rfl⟩
      rw [show decide ([x, y, z].length = 1) = false from rfl]
      refine iteF ⟨.ref t, rfl, t, _, rfl, .inr hS, rfl, _, rfl, ?_⟩
      rw [il2, show decide ([x, y, z].length = 2) = false from rfl]
      exact iteF ⟨.ref t, rfl, t, _, 0, x, rfl, rfl, hS, atI0, .ref t, rfl, t, _, 1, y, rfl, rfl, hS, atI1, .ref t, rfl, t, _, 2, z, rfl, rfl, hS, atI2, fin⟩
/-! ### _law_works -/
def spWorks (K : PySem.W.Frag) : Sp := fun vs H Q _ => ∃ p : Addr, vs = [.ref p] ∧ PenAt H p ∧ ∀ H' t ws, PenAt H' p → But p H H' → H t = none → Tp K H' (.ref t) (.tuple (tDs ws)) → GoodL ws → (∀ x ∈ ws, x.length ≤ if ws.length = 1 then 8 else 5) → Q (.ref t) H'
theorem ok_l_works {f f1 f2 : Addr} {fd fd1 fd2 : FuncData} {k : Nat} (F : Fun K "_law_works" "_law_works" s_l_works f fd)
    (G1 : FnOk P w K mg base CX0 k f1 fd1 ["_law_pen_here", "_law_many"] spDraw) (kp1 : PySem.W.keepIn K (.ref f1) = true) (b1 : Binds K fd1 ["_law_pen_here", "_law_many"] []) (g1 : mg "_law_draw" = some (.ref f1))
    (G2 : FnOk P w K mg base CX0 k f2 fd2 ["_law_pen_here", "_law_most", "_law_stations"] spWorkP) (kp2 : PySem.W.keepIn K (.ref f2) = true) (b2 : Binds K fd2 ["_law_pen_here", "_law_most", "_law_stations"] []) (g2 : mg "_law_work" = some (.ref f2))
    (m1 : mg "range" = none) (m2 : mg "tuple" = none) : FnOk P w K mg base CX0 (k + 1) f fd ["_law_pen_here"] (spWorks K) := by
  refine F.ok sc_l_works (fun vs H Q E h => ?_) (fun cdv A outer s H vs Q E hr h => ?_)
  · obtain ⟨p, rfl, _⟩ := h; rfl
  · obtain ⟨p, rfl, hp, q⟩ := h
    refine ⟨_, pss_cons (ps_set (i := 1) sc_l_works.nd rfl (Or.inr rfl) (pe_op op_add pe_int (pe_call G1 hr (by rfl) g1 kp1 b1 .nil pass0 (pa_cons (pv 0) (pa_cons pe_int pa_nil)))))
      (pss_cons (ps_set (i := 2) sc_l_works.nd rfl (Or.inr rfl) (pe_op op_add pe_int (pe_call G1 hr (by rfl) g1 kp1 b1 .nil pass0 (pa_cons (pv 0) (pa_cons pe_int pa_nil)))))
      (pss_one (ps_ret (pe_callTy call_tuple_of (by rfl) m2 (by decide +kernel) (pa_cons
        (pe_lc (own := [("_law_turn", 3)]) (g := gName 3) (tt := tYes) rfl sc_l_works.nd (pi_range1 (by rfl) m1 (pa_cons (pv 1) pa_nil))
          (blkOk_by (N := ["_law_pen_here", "_law_many", "_law_stations", "_law_turn"]) (sc := defScope s_l_works) (by decide +kernel))
          (fun _ _ _ _ _ => pg_name (i := 3) sc_l_works.nd rfl (Or.inl rfl)) (fun _ _ _ _ _ => pts_nil)
          (fun _ _ _ _ _ => pe_call G2 hr (by rfl) g2 kp2 b2 .nil pass0 (pa_cons (pv 0) (pa_cons (pe_ifExp (pt_cmpR op_eq (pv 1) pe_int (nomark _)) pe_int pe_int) (pa_cons (pv 2) pa_nil))))) pa_nil))))), ?_⟩
    refine ⟨.ref p, rfl, p, 3, rfl, hp, by decide, by decide, fun H1 r1 a1 a2 p1 e1 => ?_⟩
    refine ⟨1, r1, rfl, rfl, ?_⟩
    refine ⟨.ref p, rfl, p, 4, rfl, p1, by decide, by decide, fun H2 r2 a3 a4 p2 e2 => ?_⟩
    refine ⟨1, r2, rfl, rfl, ?_⟩
    refine ⟨.int (1 + r1), rfl, 1 + r1, rfl, by omega, by omega, fun D hD => ?_⟩
    have e12 := e1.trans e2
    have nD : p ≠ D := p2.ne hD
    refine lc_range (lo := 0) (n := (1 + r1).toNat) (fun i H' => PenAt H' p ∧ But p H2 H' ∧ ∃ acc ws, H' D = some (.lst acc) ∧ TpAll K H' acc (tDs ws) ∧ ws.length = i ∧ (∀ w ∈ ws, IsWork w) ∧ ∀ w ∈ ws, (w.length : Int) ≤ if 1 + r1 = 1 then 8 else 5)
      ⟨p2.upd nD, .of (same_new hD), [], [], upd_same, .no, rfl, (fun x hx => nomatch hx), fun x hx => nomatch hx⟩ (fun i H' hi h => ?_) (fun H' h => ?_)
    · obtain ⟨p4, e4, acc, ws, hDl, hT, hlen, hall, hmost⟩ := h
      refine ⟨rfl, ?_⟩
      have turn : ∀ H3 t (ns : List Int), PenAt H3 p → But p H' H3 → H' t = none → H3 t = some (.tup (ns.map V.int)) → IsWork ns → ((ns.length : Int) ≤ if 1 + r1 = 1 then 8 else 5) →
          ∃ acc, H3 D = some (.lst acc) ∧ acc.length < sizeLine ∧ (PenAt (upd H3 D (.lst (acc ++ [V.ref t]))) p ∧ But p H2 (upd H3 D (.lst (acc ++ [V.ref t]))) ∧
            ∃ acc' ws, (upd H3 D (.lst (acc ++ [V.ref t]))) D = some (.lst acc') ∧ TpAll K (upd H3 D (.lst (acc ++ [V.ref t]))) acc' (tDs ws) ∧ ws.length = i + 1 ∧ (∀ w ∈ ws, IsWork w) ∧ ∀ w ∈ ws, (w.length : Int) ≤ if 1 + r1 = 1 then 8 else 5) := by
        intro H3 t ns b1 b2 b3 b4 b5 b6
        have hD3 := b2 _ _ (Ne.symm nD) hDl
        have st1 : St K H' H3 := .pen b2 p4
        have st2 : St K H3 (upd H3 D (.lst (acc ++ [V.ref t]))) := .but .upd hD3
        refine ⟨acc, hD3, ?_, b1.upd nD, fun b o n e => ?_, _, ws ++ [ns], upd_same, ?_, by rw [List.length_append, hlen]; rfl, fun w hw => ?_, fun w hw => ?_⟩
        · have z := hT.len
          rw [List.length_map, hlen] at z
          exact small1000 (by omega)
        · rw [upd_ne (ne_of_none e hD)]
          exact b2 _ _ n (e4 _ _ n e)
        · show TpAll K _ _ ((ws ++ [ns]).map tD)
          rw [List.map_append]
          exact ((hT.stay st1).stay st2).add (.on ((Tp.ofInts (.of b4)).stay st2) .no)
        · rcases List.mem_append.mp hw with z | z
          · exact hall w z
          · rw [List.mem_singleton.mp z]; exact b5
        · rcases List.mem_append.mp hw with z | z
          · exact hmost w z
          · rw [List.mem_singleton.mp z]; exact b6
      refine ⟨.ref p, rfl, .int (1 + r1), rfl, rfl, _, rfl, ite2 (fun c1 => ?_) (fun c1 => ?_)⟩
      · have c2 : 1 + r1 = 1 := V.int.inj (of_decide_eq_true c1)
        exact ⟨.int (1 + r2), rfl, p, 8, 1 + r2, rfl, p4, by decide, by decide, by omega, by omega, fun H3 t ns b1 b2 b3 b4 b5 b6 _ => turn H3 t ns b1 b2 b3 b4 b5 (by rw [if_pos c2]; exact b6)⟩
      · have c2 : ¬ 1 + r1 = 1 := fun z => c1 (by rw [z]; exact decide_eq_true rfl)
        exact ⟨.int (1 + r2), rfl, p, 5, 1 + r2, rfl, p4, by decide, by decide, by omega, by omega, fun H3 t ns b1 b2 b3 b4 b5 b6 _ => turn H3 t ns b1 b2 b3 b4 b5 (by rw [if_neg c2]; exact b6)⟩
    · obtain ⟨p4, e4, acc, ws, hDl, hT, hlen, hall, hmost⟩ := h
      refine ⟨D, acc, rfl, .inl ⟨.of hDl, fun l nl => ?_⟩⟩
      have bb : But p H (upd H' l (.tup acc)) := e12.trans (e4.trans (.of (same_new nl)))
      refine q _ l ws (p4.upd (p4.ne nl)) bb ?_ (.new nl hT) ⟨by omega, by omega, hall⟩ (fun x hx => ?_)
      · exact hp.free p4 (e12.trans e4) nl
      · have := hmost x hx
        by_cases z : 1 + r1 = 1
        · rw [if_pos z] at this
          rw [if_pos (by omega)]; omega
        · rw [if_neg z] at this
          rw [if_neg (by omega)]; omega
end
end Sg
set_option Elab.async false
set_option linter.all false
set_option maxRecDepth 100000
set_option maxHeartbeats 4000000
namespace Sg
open PySem PySem.Spec PyProof.Rows L2 StX
def smallW : List Int := (List.range 22).map fun i => ((i : Nat) : Int) - 1
theorem small_tableW : ∀ i ∈ smallW, smB 1 [.int i] = true := by decide +kernel
theorem mem_smallW {i : Int} (h : -1 ≤ i ∧ i ≤ 20) : i ∈ smallW := by
  unfold smallW
  exact List.mem_map.mpr ⟨(i + 1).toNat, List.mem_range.mpr (by omega), by omega⟩
theorem smL_intsW {ns : List Int} (h : ∀ x ∈ ns, -1 ≤ x ∧ x ≤ 20) : SmL ns.length (iD ns) := by
  induction ns with
  | nil => exact SmL.nil
  | cons n ns ih =>
    refine (SmL.cons (smL_by (small_tableW n (mem_smallW (h n List.mem_cons_self)))) (ih fun x hx => h x (List.mem_cons_of_mem _ hx))).le ?_
    rw [List.length_cons]; omega
theorem SmL.tupS {k : Nat} {ds : List PyData} (h : SmL k ds) (e : k ≤ 900) : GoodD (.tuple ds) ∧ (PyData.tuple ds).bulk ≤ 900 := ⟨h.tup (by omega), by simp only [PyData.bulk]; exact Nat.le_trans h.bk e⟩
theorem SmL.lstS {k : Nat} {ds : List PyData} (h : SmL k ds) (e : k ≤ 900) : GoodD (.list ds) ∧ (PyData.list ds).bulk ≤ 900 := ⟨h.lst (by omega), by simp only [PyData.bulk]; exact Nat.le_trans h.bk e⟩
theorem str_table : ∀ i ∈ smallW, smB 5 [.str (toString i : String)] = true ∧ i.natAbs.log2 < 1920 := by decide +kernel
section
variable {P : Program} {w : World} {K : PySem.W.Frag} {mg : Str → Option Value} {base : Heap}
/-! ### _law_pick -/
def spPickA : Sp := fun vs H Q _ => ∃ (p l : Addr) (xs : List V), vs = [.ref p, .ref l] ∧ PenAt H p ∧ H l = some (.lst xs) ∧ l ≠ p ∧ xs ≠ [] ∧ xs.length ≤ 1000 ∧ ∀ H' x, x ∈ xs → PenAt H' p → But p H H' → Q x H'
theorem ok_l_pickA {f f1 : Addr} {fd fd1 : FuncData} {k : Nat} (F : Fun K "_law_pick" "_law_pick" s_l_pick f fd)
    (G1 : FnOk P w K mg base CX0 k f1 fd1 ["_law_pen_here", "_law_many"] spDraw) (kp1 : PySem.W.keepIn K (.ref f1) = true) (b1 : Binds K fd1 ["_law_pen_here", "_law_many"] []) (g1 : mg "_law_draw" = some (.ref f1)) (m1 : mg "len" = none) :
    FnOk P w K mg base CX0 (k + 1) f fd ["_law_pen_here", "_law_some"] spPickA := by
  refine F.ok sc_l_pick (fun vs H Q E h => ?_) (fun cdv A outer s H vs Q E hr h => ?_)
  · obtain ⟨p, l, xs, rfl, _⟩ := h; rfl
  · obtain ⟨p, l, xs, rfl, hp, hl, nlp, hne, hz, q⟩ := h
    refine ⟨_, pss_one (ps_ret (pe_ix ix_list (pv 1) (pe_call G1 hr (by rfl) g1 kp1 b1 .nil pass0 (pa_cons (pv 0) (pa_cons (pe_callB call_len_seq (by rfl) m1 PySem.boot_len (pa_cons (pv 1) pa_nil)) pa_nil))) (fun _ _ => rfl))), ?_⟩
    have h0 := List.length_pos_iff.mpr hne
    refine ⟨.ref l, rfl, .ref p, rfl, .ref l, rfl, l, xs, rfl, .inl (.of hl), p, _, rfl, hp, by omega, by omega, fun H' r r0 r1 p' e' => ?_⟩
    obtain ⟨i, rfl⟩ : ∃ i : Nat, r = i := ⟨r.toNat, by omega⟩
    have hi : i < xs.length := by omega
    exact ⟨l, xs, (i : Nat), xs[i], rfl, rfl, .of (e' _ _ nlp hl), atI_nat (List.getElem?_eq_getElem hi), q H' _ (List.getElem_mem hi) p' e'⟩
/-! ### _law_bend -/
/-- the state of _law_bend, behind its draws; H0: the heap it is called at -/
structure BendH (K : PySem.W.Frag) (H0 : Hp) (p a : Addr) (ns : List Int) (v1 : V) (H : Hp) : Prop where
  pen : PenAt H p
  row : SqT K H a (ns.map V.int)
  one : SmV K (wl H0 H) v1
  bt : But p H0 H
theorem BendH.same {H0 : Hp} {p a : Addr} {ns : List Int} {v1 : V} {H H' : Hp} (h : BendH K H0 p a ns v1 H) (e : Same H H') : BendH K H0 p a ns v1 H' := ⟨h.pen.same e, Same.tup e h.row, h.one.same (wl_same e), h.bt.trans (.of e)⟩
def BendS (K : PySem.W.Frag) (H0 : Hp) (p a : Addr) (ns : List Int) (v1 : V) (sp : Nat) (x4 : Option V) (σ : L2.St) (H : Hp) : Prop := σ = [some (.ref p), some (.ref a), some v1, some (.int sp), x4, none] ∧ BendH K H0 p a ns v1 H
def BendR (K : PySem.W.Frag) (H0 : Hp) (H : Hp) (v : V) : Prop := AnyS K (wl H0 H) v
/-- a tuple of what may be shown -/
theorem tup_anyW {H0 : Hp} {p b : Addr} {H : Hp} {xs : List V} {ds : List PyData} {k : Nat} (hp : PenAt H p) (bt : But p H0 H) (h : SqT K H b xs) (hd : DpAll K (wl H0 H) xs ds) (g : SmL k ds) (e : k ≤ 900) : AnyS K (wl H0 H) (.ref b) :=
  ⟨_, .data (.tup (hp.wl bt h) hd), g.tupS e⟩
theorem tup_ints {H0 : Hp} {p b : Addr} {H : Hp} {ns : List Int} (hp : PenAt H p) (bt : But p H0 H) (h : SqT K H b (ns.map V.int)) (hn : ∀ x ∈ ns, -1 ≤ x ∧ x ≤ 20) (hl : ns.length ≤ 900) : AnyS K (wl H0 H) (.ref b) :=
  tup_anyW hp bt h (dpInts ns) (smL_intsW hn) (by omega)
theorem cut_len {xs : List V} {lo hi : Option Int} : (cutV xs lo hi).length ≤ xs.length := by
  unfold cutV
  rw [List.length_take, List.length_drop]; omega
variable {H0 : Hp} {p a : Addr} {ns : List Int} {v1 : V} {sp : Nat} {x4 : Option V}
def tMid (K : PySem.W.Frag) (tl : TO) : TE :=
    tOp (fun x y H Q => ∃ a b xs ys, x = .ref a ∧ y = .ref b ∧ SqT K H a xs ∧ SqT K H b ys ∧ xs.length + ys.length ≤ sizeLine ∧ ∀ H' c, Same H H' → SqT K H' c (xs ++ ys) → Q (.ref c) H')
      (tOp (fun x y H Q => ∃ a b xs ys, x = .ref a ∧ y = .ref b ∧ SqT K H a xs ∧ SqT K H b ys ∧ xs.length + ys.length ≤ sizeLine ∧ ∀ H' c, Same H H' → SqT K H' c (xs ++ ys) → Q (.ref c) H')
        (tSl (fun x lo hi H Q => ∃ a xs, x = .ref a ∧ SqT K H a xs ∧ ∀ H' b, Same H H' → SqT K H' b (cutV xs lo hi) → Q (.ref b) H') (tVar 1) tNoPart (tPart (tVar 3)))
        (tTup (tCons (tVar 2) tNil)))
      (tSl (fun x lo hi H Q => ∃ a xs, x = .ref a ∧ SqT K H a xs ∧ ∀ H' b, Same H H' → SqT K H' b (cutV xs lo hi) → Q (.ref b) H') (tVar 1) tl tNoPart)
/-- row[:spot] + (one,) + row[lo:] -/
theorem bend_mid {tl : TO} {σ : L2.St} {H : Hp} {Q : VK} (hn : ∀ x ∈ ns, -1 ≤ x ∧ x ≤ 20) (hl : ns.length ≤ 100) (hS : BendS K H0 p a ns v1 sp x4 σ H) (q : ∀ H' v, Same H H' → BendR K H0 H' v → Q v H')
    (hth : ∀ H' (Q' : Option Int → Hp → Prop), BendH K H0 p a ns v1 H' → (∀ o, Q' o H') → tl σ H' Q') : tMid K tl σ H Q := by
  obtain ⟨rfl, hB⟩ := hS
  have big : 1000 ≤ sizeLine := by rw [sizeLine_eq]; decide
  have lm : (ns.map V.int).length = ns.length := List.length_map _
  refine ⟨.ref a, rfl, .int sp, rfl, _, rfl, a, _, rfl, hB.row, fun H1 b1 e1 h1 => ?_⟩
  refine ⟨v1, rfl, by show 1 ≤ sizeLine; omega, fun t nt => ?_⟩
  have ht : (upd H1 t (.tup [v1])) t = some (.tup [v1]) := upd_same
  have e2 : Same H (upd H1 t (.tup [v1])) := e1.trans (same_new nt)
  have h2 := Same.tup (same_new (o := .tup [v1]) nt) h1
  generalize upd H1 t (.tup [v1]) = H2 at ht e2 h2 ⊢
  have c1 := cut_len (xs := ns.map V.int) (lo := none) (hi := some (sp : Int))
  refine ⟨b1, t, _, _, rfl, rfl, h2, .of ht, by show _ + 1 ≤ _; omega, fun H3 b3 e3 h3 => ?_⟩
  refine ⟨.ref a, rfl, hth H3 _ (hB.same (e2.trans e3)) fun o => ?_⟩
  refine ⟨a, _, rfl, Same.tup (e2.trans e3) hB.row, fun H4 b4 e4 h4 => ?_⟩
  have c2 := cut_len (xs := ns.map V.int) (lo := o) (hi := none)
  refine ⟨b3, b4, _, _, rfl, rfl, Same.tup e4 h3, h4, by rw [List.length_append]; show _ + 1 + _ ≤ _; omega, fun H5 b5 e5 h5 => ?_⟩
  have eA := ((e2.trans e3).trans e4).trans e5
  have hB5 := hB.same eA
  obtain ⟨d, hd, gd⟩ := hB5.one
  obtain ⟨es1, k1, k2⟩ := DpAll.cut (dpInts (K := K) (H := wl H0 H5) ns) (smL_intsW hn) none (some (sp : Int))
  obtain ⟨es2, k3, k4⟩ := DpAll.cut (dpInts (K := K) (H := wl H0 H5) ns) (smL_intsW hn) o none
  exact q H5 _ eA (tup_anyW hB5.pen hB5.bt h5 (DpAll.app (DpAll.app k1 (.cons hd .nil)) k3) ((k2.app gd).app k4) (by omega))
end
end Sg
set_option Elab.async false
set_option linter.all false
set_option maxRecDepth 100000
set_option maxHeartbeats 4000000
namespace Sg
open PySem PySem.Spec PyProof.Rows L2 StX
theorem depth_ints : ∀ ns : List Int, PyData.depthAll (iD ns) = 0
  | [] => rfl
  | n :: ns => by
    show max (PyData.depth (.int n)) (PyData.depthAll (iD ns)) = 0
    rw [depth_ints ns]; rfl
theorem bulk_ints : ∀ ns : List Int, PyData.bulkAll (iD ns) = ns.length
  | [] => rfl
  | n :: ns => by
    show PyData.bulk (.int n) + 1 + PyData.bulkAll (iD ns) = ns.length + 1
    rw [bulk_ints ns]
    simp only [PyData.bulk]; omega
theorem smL_map {g : Int → PyData} (hg : ∀ x ∈ smallW, smB 5 [g x] = true) : ∀ {ns : List Int}, (∀ x ∈ ns, -1 ≤ x ∧ x ≤ 20) → SmL (ns.length * 5) (ns.map g)
  | [], _ => SmL.nil
  | n :: ns, h => by
    refine (SmL.cons (smL_by (hg n (mem_smallW (h n List.mem_cons_self)))) (smL_map hg fun x hx => h x (List.mem_cons_of_mem _ hx))).le ?_
    rw [List.length_cons]; omega
theorem dp_map {K : PySem.W.Frag} {H : Hp} {f : Int → V} {g : Int → PyData} (hf : ∀ x, Dp K H (f x) (g x)) : ∀ ns : List Int, DpAll K H (ns.map f) (ns.map g)
  | [] => .nil
  | n :: ns => .cons (hf n) (dp_map hf ns)
theorem bl_table : ∀ x ∈ smallW, smB 5 [.bool (decide (V.int x = V.int 1))] = true := by decide +kernel
section
variable {P : Program} {w : World} {K : PySem.W.Frag} {mg : Str → Option Value} {base : Heap}
def spBend (K : PySem.W.Frag) : Sp := fun vs H Q _ => ∃ (p a : Addr) (ns : List Int), vs = [.ref p, .ref a] ∧ PenAt H p ∧ SqT K H a (ns.map V.int) ∧ (∀ x ∈ ns, -1 ≤ x ∧ x ≤ 20) ∧ ns.length ≤ 100 ∧
  ∀ H' v, PenAt H' p → But p H H' → AnyS K (wl H H') v → Q v H'
theorem ok_l_bend {f f1 f2 : Addr} {fd fd1 fd2 : FuncData} {k : Nat} (F : Fun K "_law_bend" "_law_bend" s_l_bend f fd)
    (G1 : FnOk P w K mg base CX0 k f1 fd1 ["_law_pen_here", "_law_many"] spDraw) (kp1 : PySem.W.keepIn K (.ref f1) = true) (b1 : Binds K fd1 ["_law_pen_here", "_law_many"] []) (g1 : mg "_law_draw" = some (.ref f1))
    (G2 : FnOk P w K mg base CX0 k f2 fd2 ["_law_pen_here", "_law_some"] spPickA) (kp2 : PySem.W.keepIn K (.ref f2) = true) (b2 : Binds K fd2 ["_law_pen_here", "_law_some"] []) (g2 : mg "_law_pick" = some (.ref f2))
    (m1 : mg "len" = none) (m2 : mg "list" = none) (m3 : mg "tuple" = none) (m4 : mg "str" = none) :
    FnOk P w K mg base CX0 (k + 1) f fd ["_law_pen_here", "_law_row"] (spBend K) := by
  refine F.ok sc_l_bend (fun vs H Q E h => ?_) (fun cdv A outer s H vs Q E hr h => ?_)
  · obtain ⟨p, a, ns, rfl, _⟩ := h; rfl
  · obtain ⟨p, a, ns, rfl, hp, hrow, hn, hl, q⟩ := h
    have big : 1000 ≤ sizeLine := by rw [sizeLine_eq]; decide
    have stR : ∀ (H1 H2 : Hp) v, Same H1 H2 → AnyS K (wl H H1) v → AnyS K (wl H H2) v := fun H1 H2 v e h => h.same (wl_same e)
    let S : L2.St → Hp → Prop := fun σ H' => ∃ v1 sp x4, BendS K H p a ns v1 sp x4 σ H'
    have stS : ∀ σ H1 H2, Same H1 H2 → S σ H1 → S σ H2 := fun σ H1 H2 e ⟨v1, sp, x4, h⟩ => ⟨v1, sp, x4, h.1, h.2.same e⟩
    have lm : (ns.map V.int).length = ns.length := List.length_map _
    have mid : ∀ {σ : L2.St} {Hm : Hp} {Q : VK}, S σ Hm → (∀ H' v, Same Hm H' → AnyS K (wl H H') v → Q v H') → tMid K (tPart (tVar 3)) σ Hm Q := @fun σ Hm Q hS q => by
      obtain ⟨v1, sp, x4, hS⟩ := hS
      exact bend_mid hn hl hS q (fun H' Q' hB h => ⟨.int sp, by rw [hS.1]; rfl, _, rfl, h _⟩)
    have mid1 : ∀ {σ : L2.St} {Hm : Hp} {Q : VK}, S σ Hm → (∀ H' v, Same Hm H' → AnyS K (wl H H') v → Q v H') → tMid K (tPart (tOp rAdd (tVar 3) (tC (.int 1)))) σ Hm Q := @fun σ Hm Q hS q => by
      obtain ⟨v1, sp, x4, hS⟩ := hS
      exact bend_mid hn hl hS q (fun H' Q' hB h => ⟨.int sp, by rw [hS.1]; rfl, sp, 1, rfl, rfl, _, rfl, h _⟩)
    have cuts : ∀ (H1 : Hp) lo hi, ∃ es, DpAll K (wl H H1) (cutV (ns.map V.int) lo hi) es ∧ SmL ns.length es := fun H1 lo hi => DpAll.cut (dpInts ns) (smL_intsW hn) lo hi
    have clen : ∀ lo hi, (cutV (ns.map V.int) lo hi).length ≤ ns.length := fun lo hi => by have := cut_len (xs := ns.map V.int) (lo := lo) (hi := hi); omega
    refine ⟨_, pss_cons (ps_set (i := 2) sc_l_bend.nd rfl (.inl rfl) (pe_call G2 hr (by rfl) g2 kp2 b2 .nil pass0 (pa_cons (pv 0) (pa_cons (pe_smL (n := 13) (by decide +kernel) rfl (by decide)) pa_nil))))
      (pss_cons (ps_set (i := 3) sc_l_bend.nd rfl (.inl rfl) (pe_call G1 hr (by rfl) g1 kp1 b1 .nil pass0 (pa_cons (pv 0) (pa_cons (pe_op op_add (pe_callB call_len_seq (by rfl) m1 PySem.boot_len (pa_cons (pv 1) pa_nil)) pe_int) pa_nil))))
      (pss_cons (ps_set (i := 4) sc_l_bend.nd rfl (.inl rfl) (pe_lst
        (pa_e (S := S) (R := fun H' v => AnyS K (wl H H') v) stS stR
          (PE.e (pe_op (op_catB (K := K) rfl) (pe_op (op_catB (K := K) rfl) (pe_slice (sl_tupB (K := K) rfl) (pv 1) po_none (po_some (pv 3))) (pe_tup (pa_cons (pv 2) pa_nil))) (pe_slice (sl_tupB (K := K) rfl) (pv 1) (po_some (pv 3)) po_none)) fun σ H1 Q1 hS q1 => mid hS q1)
        (pa_e stS stR (PE.e (pe_revT (K := K) rfl (pv 1)) fun σ H1 Q1 hS q1 => ?_)
        (pa_e stS stR (PE.e (pe_callTy call_list_of (by rfl) m2 (by decide +kernel) (pa_cons (pv 1) pa_nil)) fun σ H1 Q1 hS q1 => ?_)
        (pa_e stS stR (PE.e (pe_tup (pa_cons (pv 1) pa_nil)) fun σ H1 Q1 hS q1 => ?_)
        (pa_e stS stR (PE.e (pe_op (op_catB (K := K) rfl) (pv 1) (pe_slice (sl_tupB (K := K) rfl) (pv 1) (po_some (pe_un un_neg pe_int)) po_none)) fun σ H1 Q1 hS q1 => ?_)
        (pa_e stS stR (PE.e (pe_slice (sl_tupB (K := K) rfl) (pv 1) (po_some pe_int) po_none) fun σ H1 Q1 hS q1 => ?_)
        (pa_e stS stR (PE.e (pe_slice (sl_tupB (K := K) rfl) (pv 1) po_none (po_some (pe_un un_neg pe_int))) fun σ H1 Q1 hS q1 => ?_) pa_e0)))))))))
      (pss_cons (ps_set (i := 4) sc_l_bend.nd rfl (.inl rfl) (pe_op op_cat (pv 4) (pe_lst
        (pa_e (S := S) (R := fun H' v => AnyS K (wl H H') v) stS stR
          (PE.e (pe_op (op_catB (K := K) rfl) (pe_op (op_catB (K := K) rfl) (pe_slice (sl_tupB (K := K) rfl) (pv 1) po_none (po_some (pv 3))) (pe_tup (pa_cons (pv 2) pa_nil))) (pe_slice (sl_tupB (K := K) rfl) (pv 1) (po_some (pe_op op_add (pv 3) pe_int)) po_none)) fun σ H1 Q1 hS q1 => mid1 hS q1)
        (pa_e stS stR (PE.e (pe_callTy call_tuple_of (by rfl) m3 (by decide +kernel) (pa_cons
            (pe_lc (own := [("_law_other", 5)]) (g := gName 5) (tt := tYes) rfl sc_l_bend.nd (pi_tup (pv 1)) (blkOk_by (N := ["_law_pen_here", "_law_row", "_law_one", "_law_spot", "_law_found", "_law_other"]) (sc := defScope s_l_bend) (by decide +kernel))
              (fun _ _ _ _ _ => pg_name (i := 5) sc_l_bend.nd rfl (Or.inl rfl)) (fun _ _ _ _ _ => pts_nil) (fun _ _ _ _ _ => pe_cmpR op_eq (pv 5) pe_int (nomark _))) pa_nil)) fun σ H1 Q1 hS q1 => ?_) pa_e0)))))
      (pss_one (ps_ret (pe_call G2 hr (by rfl) g2 kp2 b2 .nil pass0 (pa_cons (pv 0) (pa_cons (pe_op op_cat (pv 4) (pe_lst
        (pa_e (S := S) (R := fun H' v => AnyS K (wl H H') v) stS stR
          (PE.e (pe_op (op_catB (K := K) rfl) (pe_op (op_catB (K := K) rfl) (pe_slice (sl_tupB (K := K) rfl) (pv 1) po_none (po_some (pv 3))) (pe_tup (pa_cons (pv 2) pa_nil))) (pe_slice (sl_tupB (K := K) rfl) (pv 1) (po_some (pe_op op_add (pv 3) pe_int)) po_none)) fun σ H1 Q1 hS q1 => mid1 hS q1)
        (pa_e stS stR (PE.e (pe_callTy call_tuple_of (by rfl) m3 (by decide +kernel) (pa_cons
            (pe_lc (own := [("_law_other", 5)]) (g := gName 5) (tt := tYes) rfl sc_l_bend.nd (pi_tup (pv 1)) (blkOk_by (N := ["_law_pen_here", "_law_row", "_law_one", "_law_spot", "_law_found", "_law_other"]) (sc := defScope s_l_bend) (by decide +kernel))
              (fun _ _ _ _ _ => pg_name (i := 5) sc_l_bend.nd rfl (Or.inl rfl)) (fun _ _ _ _ _ => pts_nil) (fun _ _ _ _ _ => pe_callTy call_str_int (by rfl) m4 (by decide +kernel) (pa_cons (pv 5) pa_nil))) pa_nil)) fun σ H1 Q1 hS q1 => ?_) pa_e0)))) pa_nil)))))))), ?_⟩
    · obtain ⟨v1, sp, x4, rfl, hB⟩ := hS
      refine ⟨.ref a, rfl, a, _, rfl, hB.row, fun t nt => q1 _ _ (same_new nt) ?_⟩
      refine tup_ints (ns := ns.reverse) (hB.pen.new nt) (hB.bt.trans (.of (same_new nt))) (.of ?_) (fun x hx => hn x (List.mem_reverse.mp hx)) (by rw [List.length_reverse]; omega)
      rw [List.map_reverse]; exact upd_same
    · obtain ⟨v1, sp, x4, rfl, hB⟩ := hS
      exact ⟨.ref a, rfl, a, _, rfl, .inr hB.row, fun l nl => q1 _ _ (same_new nl) ⟨.list (iD ns), .data (.lst (.of ((wl_ne (fun xs z => by rw [hp.free hB.pen hB.bt nl] at z; exact nomatch z)).trans upd_same)) (dpInts ns)), (smL_intsW hn).lstS (by omega)⟩⟩
    · obtain ⟨v1, sp, x4, rfl, hB⟩ := hS
      refine ⟨.ref a, rfl, by show 1 ≤ sizeLine; omega, fun t nt => q1 _ _ (same_new nt) (tup_anyW (k := 150) (ds := [.tuple (iD ns)]) (hB.pen.new nt) (hB.bt.trans (.of (same_new nt))) (.of upd_same) (.cons (.tup ((hB.pen.new nt).wl (hB.bt.trans (.of (same_new nt))) (Same.tup (same_new nt) hB.row)) (dpInts ns)) .nil) (SmL.one ((smL_intsW hn).tup (by omega)) ?_ ?_) (by decide))⟩
      · simp only [PyData.depth, depth_ints]; decide
      · simp only [PyData.bulk, bulk_ints]; omega
    · obtain ⟨v1, sp, x4, rfl, hB⟩ := hS
      refine ⟨.ref a, rfl, .ref a, rfl, 1, rfl, _, rfl, a, _, rfl, hB.row, fun H2 b2 e2 h2 => ?_⟩
      refine ⟨a, b2, _, _, rfl, rfl, Same.tup e2 hB.row, h2, by have := clen (some (-1)) none; omega, fun H3 b3 e3 h3 => q1 _ _ (e2.trans e3) ?_⟩
      obtain ⟨es, k1, k2⟩ := cuts H3 (some (-1)) none
      exact tup_anyW (hB.pen.same (e2.trans e3)) (hB.bt.trans (.of (e2.trans e3))) h3 (DpAll.app (dpInts ns) k1) ((smL_intsW hn).app k2) (by omega)
    · obtain ⟨v1, sp, x4, rfl, hB⟩ := hS
      refine ⟨.ref a, rfl, _, rfl, a, _, rfl, hB.row, fun H2 b2 e2 h2 => q1 _ _ e2 ?_⟩
      obtain ⟨es, k1, k2⟩ := cuts H2 (some 1) none
      exact tup_anyW (hB.pen.same e2) (hB.bt.trans (.of e2)) h2 k1 k2 (by omega)
    · obtain ⟨v1, sp, x4, rfl, hB⟩ := hS
      refine ⟨.ref a, rfl, 1, rfl, _, rfl, a, _, rfl, hB.row, fun H2 b2 e2 h2 => q1 _ _ e2 ?_⟩
      obtain ⟨es, k1, k2⟩ := cuts H2 none (some (-1))
      exact tup_anyW (hB.pen.same e2) (hB.bt.trans (.of e2)) h2 k1 k2 (by omega)
    · obtain ⟨v1, sp, x4, rfl, hB⟩ := hS
      refine ⟨.ref a, rfl, a, rfl, ⟨_, hB.row⟩, fun D hD => ?_⟩
      refine lc_tup (xs := ns.map V.int) (fun i H' => Same H1 H' ∧ H' D = some (.lst ((ns.take i).map fun x => V.bl (decide (V.int x = V.int 1))))) ⟨same_new hD, upd_same⟩ (fun i H' _ h => Same.tup h.1 hB.row) (fun i x H' hx h => ?_) (fun H' h => ?_)
      · obtain ⟨sm, hDl⟩ := h
        rw [List.getElem?_map] at hx
        obtain ⟨y, hy, rfl⟩ := Option.map_eq_some_iff.mp hx
        refine ⟨rfl, .int y, rfl, rfl, _, hDl, ?_, fun b o e => ?_, ?_⟩
        · rw [List.length_map, List.length_take]; omega
        · rw [upd_ne (ne_of_none e hD)]; exact sm _ _ e
        · rw [upd_same, List.take_add_one, hy, List.map_append]; rfl
      · obtain ⟨sm, hDl⟩ := h
        rw [lm, List.take_length] at hDl
        refine ⟨D, _, rfl, .inl ⟨.of hDl, fun t nt => q1 _ _ (sm.trans (same_new nt)) ?_⟩⟩
        exact tup_anyW (hB.pen.same (sm.trans (same_new nt))) (hB.bt.trans (.of (sm.trans (same_new nt)))) (.of upd_same) (dp_map (g := fun x => .bool (decide (V.int x = V.int 1))) (fun x => .bl _) ns) (smL_map bl_table hn) (by omega)
    · obtain ⟨v1, sp, x4, rfl, hB⟩ := hS
      refine ⟨.ref a, rfl, a, rfl, ⟨_, hB.row⟩, fun D hD => ?_⟩
      refine lc_tup (xs := ns.map V.int) (fun i H' => Same H1 H' ∧ H' D = some (.lst ((ns.take i).map fun x => V.str (toString x : String)))) ⟨same_new hD, upd_same⟩ (fun i H' _ h => Same.tup h.1 hB.row) (fun i x H' hx h => ?_) (fun H' h => ?_)
      · obtain ⟨sm, hDl⟩ := h
        rw [List.getElem?_map] at hx
        obtain ⟨y, hy, rfl⟩ := Option.map_eq_some_iff.mp hx
        refine ⟨rfl, .int y, rfl, y, rfl, (str_table y (mem_smallW (hn y (List.mem_of_getElem? hy)))).2, _, hDl, ?_, fun b o e => ?_, ?_⟩
        · rw [List.length_map, List.length_take]; omega
        · rw [upd_ne (ne_of_none e hD)]; exact sm _ _ e
        · rw [upd_same, List.take_add_one, hy, List.map_append]; rfl
      · obtain ⟨sm, hDl⟩ := h
        rw [lm, List.take_length] at hDl
        refine ⟨D, _, rfl, .inl ⟨.of hDl, fun t nt => q1 _ _ (sm.trans (same_new nt)) ?_⟩⟩
        exact tup_anyW (hB.pen.same (sm.trans (same_new nt))) (hB.bt.trans (.of (sm.trans (same_new nt)))) (.of upd_same) (dp_map (g := fun x => .str (toString x : String)) (fun x => .str _) ns) (smL_map (fun x hx => (str_table x hx).1) hn) (by omega)
    · refine ⟨.ref p, rfl, fun H1 l xs e1 nl hl1 hxs lx => ?_⟩
      have p1 := hp.same e1
      refine ⟨p, l, xs, rfl, p1, hl1, Ne.symm (hp.ne nl), (fun z => by rw [z] at lx; exact absurd lx (by decide)), by omega, fun H2 v1 hv1 p2 b2 => ?_⟩
      have hB2 : BendH K H p a ns v1 H2 := ⟨p2, p1.tup b2 (Same.tup e1 hrow), ((hxs v1 hv1).same nw_wl).same (wl_but hp b2), (But.of e1).trans b2⟩
      refine ⟨.ref p, rfl, .ref a, rfl, a, _, rfl, .inr hB2.row, _, 1, rfl, rfl, p, _, rfl, p2, by omega, by omega, fun H3 r r0 r1 p3 b3 => ?_⟩
      have hB3 : BendH K H p a ns v1 H3 := ⟨p3, p2.tup b3 hB2.row, hB2.one.same (wl_but hp b3), hB2.bt.trans b3⟩
      obtain ⟨sp, rfl⟩ : ∃ sp : Nat, r = sp := ⟨r.toNat, by omega⟩
      have c3 : But p H H3 := ((But.of e1).trans b2).trans b3
      refine ⟨⟨v1, sp, none, rfl, hB3⟩, fun H4 vs4 e4 hv4 hl4 => ⟨by omega, fun l4 nl4 => ?_⟩⟩
      have n4 : l4 ≠ p := Ne.symm ((p3.same e4).ne nl4)
      have hB4 := (hB3.same e4).same (same_new (o := .lst vs4) nl4)
      have hl4' : (upd H4 l4 (.lst vs4)) l4 = some (.lst vs4) := upd_same
      have e4' := e4.trans (same_new (o := .lst vs4) nl4)
      have hv4' : ∀ v ∈ vs4, AnyS K (wl H (upd H4 l4 (.lst vs4))) v := fun v hv => stR _ _ _ (same_new nl4) (hv4 v hv)
      generalize upd H4 l4 (.lst vs4) = H4' at hB4 hl4' e4' hv4' ⊢
      refine ⟨.ref l4, rfl, ⟨v1, sp, some (.ref l4), rfl, hB4⟩, fun H5 vs5 e5 hv5 hl5 => ⟨by omega, fun l5 nl5 => ?_⟩⟩
      refine ⟨l4, l5, _, _, rfl, rfl, same_new nl5 _ _ (e5 _ _ hl4'), upd_same, by omega, fun l6 nl6 => ?_⟩
      have e6 := (e5.trans (same_new (o := .lst vs5) nl5)).trans (same_new (o := .lst (vs4 ++ vs5)) nl6)
      have hB6 := hB4.same e6
      have hl6 : (upd (upd H5 l5 (.lst vs5)) l6 (.lst (vs4 ++ vs5))) l6 = some (.lst (vs4 ++ vs5)) := upd_same
      have hv6 : ∀ v ∈ vs4 ++ vs5, AnyS K (wl H (upd (upd H5 l5 (.lst vs5)) l6 (.lst (vs4 ++ vs5)))) v := fun v hv => (List.mem_append.mp hv).elim (fun z => stR _ _ _ e6 (hv4' v z)) fun z => stR _ _ _ ((same_new (o := .lst vs5) nl5).trans (same_new nl6)) (hv5 v z)
      have hl6' : (vs4 ++ vs5).length = 9 := by rw [List.length_append]; omega
      generalize upd (upd H5 l5 (.lst vs5)) l6 (.lst (vs4 ++ vs5)) = H6 at e6 hB6 hl6 hv6 ⊢
      generalize vs4 ++ vs5 = vs6 at hl6 hv6 hl6' ⊢
      refine ⟨.ref p, rfl, .ref l6, rfl, ⟨v1, sp, some (.ref l6), rfl, hB6⟩, fun H7 vs7 e7 hv7 hl7 => ⟨by omega, fun l7 nl7 => ?_⟩⟩
      refine ⟨l6, l7, _, _, rfl, rfl, same_new nl7 _ _ (e7 _ _ hl6), upd_same, by omega, fun l8 nl8 => ?_⟩
      have e8 := (e7.trans (same_new (o := .lst vs7) nl7)).trans (same_new (o := .lst (vs6 ++ vs7)) nl8)
      have hB8 := hB6.same e8
      have p8n := Ne.symm (((hB6.pen.same e7).same (same_new (o := .lst vs7) nl7)).ne nl8)
      have hv8 : ∀ v ∈ vs6 ++ vs7, AnyS K (wl H (upd (upd H7 l7 (.lst vs7)) l8 (.lst (vs6 ++ vs7)))) v := fun v hv => (List.mem_append.mp hv).elim (fun z => stR _ _ _ e8 (hv6 v z)) fun z => stR _ _ _ ((same_new (o := .lst vs7) nl7).trans (same_new nl8)) (hv7 v z)
      have hl8 : (vs6 ++ vs7).length = 11 := by rw [List.length_append]; omega
      refine ⟨p, l8, _, rfl, hB8.pen, upd_same, p8n, (fun z => by rw [z] at hl8; exact absurd hl8 (by decide)), by omega, fun H9 x hx p9 b9 => ?_⟩
      exact q H9 x p9 (((c3.trans (.of e4')).trans (.of (e6.trans e8))).trans b9) ((hv8 x hx).same (wl_but hp b9))
end
end Sg
set_option Elab.async false
set_option linter.all false
set_option maxRecDepth 100000
set_option maxHeartbeats 4000000
namespace Sg
open PySem PySem.Spec PyProof.Rows L2 StX
theorem LineAt.ext {K : PySem.W.Frag} {C a : Addr} {H H' : Hp} {ws : List (List Int)} (h : LineAt K C H a ws) (e : LamX.ExtN H H') : LineAt K C H' a ws :=
  h.stay ⟨fun _ _ z => ext_tup e z, fun _ _ _ _ z => e _ _ z fun ps y => nomatch y⟩
theorem IntLn.ext {K : PySem.W.Frag} {C : Addr} {H H' : Hp} (e : LamX.ExtN H H') : ∀ {vs : List V} {ts : List Str}, IntLn K C H vs ts → IntLn K C H' vs ts
  | _, _, .nil => .nil
  | _, _, .int h r => .int h (IntLn.ext e r)
  | _, _, .line h r => .line (h.ext e) (IntLn.ext e r)
theorem ShowL.ext {K : PySem.W.Frag} {C : Addr} {H H' : Hp} (e : LamX.ExtN H H') {v : V} {t : Str} (h : ShowL K C H v t) : ShowL K C H' v t := by
  cases h with
  | any h g => exact .any (h.ext e) g
  | line h => exact .line (h.ext e)
  | tup h1 h2 h3 => exact .tup (ext_tup e h1) (h2.ext e) h3
  | nest h1 h2 h3 h4 h5 h6 => exact .nest (ext_tup e h1) (ext_tup e h2) (h3.ext e) h4 h5 h6
/-- what the methods of a line refuse, and how they are asked -/
structure Bad (P : Program) (w : World) (K : PySem.W.Frag) (mg : Str → Option Value) (base : Heap) (k : Nat) (C Ck Co Cl Cw Ct : Addr) : Prop where
  item : ∃ f fd, FnOk P w K mg base (L2.CX P w) k f fd ["self", "at"] (spItemB K C Ck) ∧ Binds K fd ["self", "at"] [] ∧ PySem.W.findIn K (.ref C) "__getitem__" = some (some (.ref f)) ∧ PySem.W.isFn K (.ref f) = true ∧ PySem.W.fnIn K f = true
  call : ∃ f fd, FnOk P w K mg base (L2.CX P w) k f fd ["self", "one", "other"] (spCallB K C Ck) ∧ Binds K fd ["self", "one", "other"] [] ∧ CallO K C f
  sub : ∃ f fd, FnOk P w K mg base (L2.CX P w) k f fd ["self", "other"] (spSubB K C Ck Co) ∧ Binds K fd ["self", "other"] [] ∧ PySem.W.findIn K (.ref C) "__sub__" = some (some (.ref f)) ∧ PySem.W.isFn K (.ref f) = true
  add : ∃ f fd, FnOk P w K mg base (L2.CX P w) k f fd ["self", "other"] (spAddB K C Cl Ct) ∧ Binds K fd ["self", "other"] [] ∧ PySem.W.findIn K (.ref C) "__add__" = some (some (.ref f)) ∧ PySem.W.isFn K (.ref f) = true
  eq : ∃ f fd, FnOk P w K mg base CX0 k f fd ["self", "other"] (spEqP K C) ∧ Binds K fd ["self", "other"] [] ∧ PySem.W.findIn K (.ref C) "__eq__" = some (some (.ref f)) ∧ PySem.W.isFn K (.ref f) = true
  oS : OpsX K C "sub"
  oA : OpsX K C "add"
  init : ∃ f, Mk K C f ∧ FnR P w K mg base (L2.CX P w) k f (spInitB K C Cw Ct)
  ne : PySem.W.findIn K (.ref C) "__ne__" = some (some (.builtin "object.__ne__"))
  ob : PySem.W.subIn K (.ref C) (.type "object") = some true
section
variable {X : Cx} {k : Nat} {C Ck Co Cl Cw Ct : Addr} {E : XK} {a b e fe : Expr} {es : List Expr} {ta tb tf : TE} {t : TA} {p pos : Pos} {K : PySem.W.Frag}
theorem Bad.pItem (B : Bad X.prog X.w K X.mg X.base k C Ck Co Cl Cw Ct) (hK : X.K = K) (hr : Room (k + 1) X.A) (hx : Passes (L2.CX X.prog X.w) X E) (ha : PE X a ta) (hb : PE X b tb)
    (hsl : ∀ x i, subscripted b true (.ref x) i = runValue (.builtin "lifetime.subscript" ⟨[.ref x, i], []⟩) := by intro _ _; rfl) : PE X (.Subscript a b pos) (tItemX C (spItemB K C Ck) E ta tb) := by
  subst hK
  obtain ⟨f, fd, h1, h2, h3, h4, h5⟩ := B.item
  exact pe_itemX ha hb h1 hr h2 h3 h4 h5 hx hsl
theorem Bad.pCall (B : Bad X.prog X.w K X.mg X.base k C Ck Co Cl Cw Ct) (hK : X.K = K) (hr : Room k X.A) (hx : Passes (L2.CX X.prog X.w) X E) (hf : PE X fe tf) (ha : PA X (e :: es) t)
    (ht : eval (.Call fe (e :: es) [] pos) X.env = (do callWith pos (← eval fe X.env) [] (backTo pos (starEach (e :: es) X.env)) (backToKw pos (keywordEach [] X.env))) := by rfl)
    (he : starEach (e :: es) X.env = (false, eval e X.env) :: starEach es X.env := by rfl) (hpl : (backTo pos (starEach es X.env)).any (·.1) = false := by rfl) :
    PE X (.Call fe (e :: es) [] pos) (tCallX C (spCallB K C Ck) E tf t) := by
  subst hK
  obtain ⟨f, fd, h1, h2, h3⟩ := B.call
  exact pe_callOX hf ha h3 (fnR_ofX h1 h2) hr hx ht he hpl
theorem Bad.pSub (B : Bad X.prog X.w K X.mg X.base k C Ck Co Cl Cw Ct) (hK : X.K = K) (hr : Room k X.A) (hx : Passes (L2.CX X.prog X.w) X E) (ha : PE X a ta) (hb : PE X b tb) : PE X (.BinOp a .Sub b pos) (tBinX K C (spSubB K C Ck Co) E ta tb) := by
  subst hK
  obtain ⟨f, fd, h1, h2, h3, h4⟩ := B.sub
  exact pe_binX ha hb h1 hr h2 h3 h4 B.oS hx
theorem Bad.pAdd (B : Bad X.prog X.w K X.mg X.base k C Ck Co Cl Cw Ct) (hK : X.K = K) (hr : Room k X.A) (hx : Passes (L2.CX X.prog X.w) X E) (ha : PE X a ta) (hb : PE X b tb) : PE X (.BinOp a .Add b pos) (tBinX K C (spAddB K C Cl Ct) E ta tb) := by
  subst hK
  obtain ⟨f, fd, h1, h2, h3, h4⟩ := B.add
  exact pe_binX ha hb h1 hr h2 h3 h4 B.oA hx
theorem Bad.pNew (B : Bad X.prog X.w K X.mg X.base k C Ck Co Cl Cw Ct) (hK : X.K = K) (hr : Room (k + 1) X.A) (hx : Passes (L2.CX X.prog X.w) X E) {x : Str} (hg : Gl X x) (hm : X.mg x = some (.ref C)) (ha : PA X (e :: es) t) (hdb : (x == ("__debug__" : Str)) = false := by decide)
    (he : starEach (e :: es) X.env = (false, eval e X.env) :: starEach es X.env := by rfl) (hpl : (backTo pos (starEach es X.env)).any (·.1) = false := by rfl) : PE X (.Call (.Name x p) (e :: es) [] pos) (tMakeR C (spInitB K C Cw Ct) E t) := by
  subst hK
  obtain ⟨f, h1, h2⟩ := B.init
  exact pe_makeR h1 h2 hr hg hm hx ha hdb he hpl
theorem Bad.pNew0 (B : Bad X.prog X.w K X.mg X.base k C Ck Co Cl Cw Ct) (hK : X.K = K) (hr : Room (k + 1) X.A) (hx : Passes (L2.CX X.prog X.w) X E) {x : Str} (hg : Gl X x) (hm : X.mg x = some (.ref C)) (hdb : (x == ("__debug__" : Str)) = false := by decide) :
    PE X (.Call (.Name x p) [] [] pos) (fun σ H Q => ∀ z dz, H z = none → H dz = none → dz ≠ z → spInitB K C Cw Ct [V.ref z] (upd (upd H dz (.own z)) z (.ins C dz [])) (fun v H2 => v = .non ∧ Q (.ref z) H2) E) := by
  subst hK
  obtain ⟨f, h1, h2⟩ := B.init
  exact pe_make0 h1 h2 hr hg hm hx hdb
theorem Bad.oEq (B : Bad X.prog X.w K X.mg X.base k C Ck Co Cl Cw Ct) (hK : X.K = K) (hr : Room k X.A) : OpR X (compareOp .Eq) (fun x y H Q => ∃ a T ws, x = .ref a ∧ LineAt K C H a ws ∧ PlD K H y T ∧ Q (.bl false) H) := by
  subst hK
  obtain ⟨f, fd, h1, h2, h3, h4⟩ := B.eq
  intro pins s σ H x y v u Q I rx ry ⟨a, T, ws, e, hL, hp, q⟩
  exact op_eqP h1 hr h2 h3 h4 (fun T hT => (B.oA.ty T hT).2.2) pins s σ H x y v u Q I rx ry ⟨a, T, e, hL.ins, hp, a, y, ws, rfl, hL, hp.plain, q⟩
theorem Bad.oNe (B : Bad X.prog X.w K X.mg X.base k C Ck Co Cl Cw Ct) (hK : X.K = K) (hr : Room (k + 2) X.A) : OpR X (compareOp .NotEq) (fun x y H Q => ∃ a T ws, x = .ref a ∧ LineAt K C H a ws ∧ PlD K H y T ∧ Q (.bl true) H) := by
  subst hK
  obtain ⟨f, fd, h1, h2, h3, h4⟩ := B.eq
  intro pins s σ H x y v u Q I rx ry ⟨a, T, ws, e, hL, hp, q⟩
  subst e
  exact op_neP h1 hr h2 h3 h4 B.ne B.ob (fun T hT => (B.oA.ty T hT).2.2) pins s σ H _ y v u Q I rx ry ⟨a, T, rfl, hL.ins, hp, a, y, ws, rfl, hL, hp.plain, false, rfl, q⟩
/-- made: what stands stays -/
theorem ins_same {H : Hp} {z dz : Addr} (nz : H z = none) (nd : H dz = none) : Same H (upd (upd H dz (.own z)) z (.ins C dz [])) := fun b o h => by
  rw [upd_ne (ne_of_none h nz), upd_ne (ne_of_none h nd)]; exact h
end
/-- what shows as t, or a list of one Line -/
def ShowM (K : PySem.W.Frag) (C : Addr) (H : Hp) (v : V) (t : Str) : Prop := ShowL K C H v t ∨ ∃ a x ws, v = .ref a ∧ SqL K H a [.ref x] ∧ LineAt K C H x ws ∧ t = listText [word ws.length]
theorem ShowM.ext {K : PySem.W.Frag} {C : Addr} {H H' : Hp} (e : LamX.ExtN H H') {v : V} {t : Str} (h : ShowM K C H v t) : ShowM K C H' v t := by
  rcases h with h | ⟨a, x, ws, rfl, h1, h2, rfl⟩
  · exact .inl (h.ext e)
  · exact .inr ⟨a, x, ws, rfl, ext_lst e h1, h2.ext e, rfl⟩
theorem call_reprM {X : Cx} {k : Nat} {C : Addr} (M : Meths2 X.prog X.w X.K X.mg X.base k C) (hgd : X.A.guards = some []) (hr : Room (k + 2) X.A) :
    CallR X (.builtin "repr") (fun xs H Q => ∃ v t, xs = [v] ∧ ShowM X.K C H v t ∧ ∀ H', Same H H' → Q (.str t) H') := by
  intro pins s σ H xs us Q I r ⟨v, t, e, h, q⟩
  rcases h with h | ⟨a, x, ws, rfl, h1, h2, rfl⟩
  · exact call_reprL M hgd hr pins s σ H xs us Q I r ⟨v, t, e, h, q H (same_refl H)⟩
  · exact call_reprLn M hgd hr pins s σ H xs us Q I r ⟨a, x, ws, e, h1, h2, q⟩
/-- a thing of the law: plain, shown, with its data -/
structure Th (K : PySem.W.Frag) (C : Addr) (H : Hp) (v : V) : Prop where
  sh : ∃ t, ShowM K C H v t
  lp : ∃ d, Lp K C H v d
  pl : ∃ T, PlD K H v T
theorem Th.ext {K : PySem.W.Frag} {C : Addr} {H H' : Hp} (e : LamX.ExtN H H') {v : V} (h : Th K C H v) : Th K C H' v := by
  obtain ⟨⟨t, h1⟩, ⟨d, h2⟩, T, h3⟩ := h
  exact ⟨⟨t, h1.ext e⟩, ⟨d, h2.ext e⟩, T, h3.ext e⟩
theorem Th.same {K : PySem.W.Frag} {C : Addr} {H H' : Hp} (e : Same H H') {v : V} (h : Th K C H v) : Th K C H' v := h.ext (ext_of e)
def flatD : PyData → PyData
  | .dict _ => .dict []
  | d => d
theorem Aq.lp {K : PySem.W.Frag} {C : Addr} {H : Hp} {v : V} {d : PyData} (h : Aq K H v d) : Lp K C H v (flatD d) := by
  cases h with
  | dic h g => exact .dic h
  | data h =>
    cases h with
    | non => exact .non
    | bl b => exact .bl b
    | int i => exact .int i
    | str x => exact .str x
    | lst h r => exact .lst h (DpAll.lp r)
    | tup h r => exact .tup h (DpAll.lp r)
theorem Aq.pl {K : PySem.W.Frag} {H : Hp} {v : V} {d : PyData} (h : Aq K H v d) : ∃ T, PlD K H v T := by
  cases h with
  | dic h g => exact ⟨_, .dic h⟩
  | data h =>
    cases h with
    | non => exact ⟨_, .non⟩
    | bl b => exact ⟨_, .bl b⟩
    | int i => exact ⟨_, .int i⟩
    | str x => exact ⟨_, .str x⟩
    | lst h r => exact ⟨_, .lst h⟩
    | tup h r => exact ⟨_, .tup h⟩
theorem Th.of {K : PySem.W.Frag} {C : Addr} {H : Hp} {v : V} {d : PyData} (h : Aq K H v d) (g : GoodD d) : Th K C H v := ⟨⟨_, .inl (.any h g)⟩, ⟨_, h.lp⟩, h.pl⟩
theorem Th.lineL {K : PySem.W.Frag} {C : Addr} {H : Hp} {a x : Addr} {ws : List (List Int)} (h : SqL K H a [.ref x]) (g : LineAt K C H x ws) : Th K C H (.ref a) :=
  ⟨⟨_, .inr ⟨a, x, ws, rfl, h, g, rfl⟩⟩, ⟨_, .lst h (.cons (.line g) .nil)⟩, _, .lst h⟩
end Sg
set_option Elab.async false
set_option linter.all false
set_option maxRecDepth 100000
set_option maxHeartbeats 4000000
namespace Sg
open PySem PySem.Spec PyProof.Rows L2 StX
def wKd : Str := "! " ++ "kind"
def wWk : Str := "! " ++ "work"
def wLn : Str := "! " ++ "line"
def wOn : Str := "! " ++ "one"
/-- all the law's defs ask of _law_said and of the methods -/
structure SaidKit (P : Program) (w : World) (K : PySem.W.Frag) (mg : Str → Option Value) (base : Heap) (k kB : Nat) (C : Nat → Addr) (CL Ck Co Cl Cw Ct Gap fs f1 : Addr) (fds fd1 : FuncData) : Prop where
  F : Fun K "_law_said" "_law_said" s_l_said fs fds
  kp : PySem.W.keepIn K (.ref fs) = true
  b : Binds K fds ["_law_call"] []
  g : mg "_law_said" = some (.ref fs)
  G1 : FnE P w K mg base k f1 fd1 ["_law_e"] (spKind K C)
  kp1 : PySem.W.keepIn K (.ref f1) = true
  b1 : Binds K fd1 ["_law_e"] []
  g1 : mg "_law_kind" = some (.ref f1)
  XF : XfC K Ct
  x1 : PySem.W.findIn K (.ref Ct) "amount" = some none
  x2 : PySem.W.findIn K (.ref Ct) "limit" = some none
  me : mg "GapError" = some (.ref Gap)
  m1 : mg "repr" = none
  SK : SaidOk K C Gap Ck 2 "kind"
  SO : SaidOk K C Gap Co 3 "one"
  SL : SaidOk K C Gap Cl 1 "line"
  SW : SaidOk K C Gap Cw 0 "work"
  SM : SaidOk K C Gap Ct 23 "many"
  B : Bad P w K mg base kB CL Ck Co Cl Cw Ct
  hkB : kB + 1 ≤ k
section
variable {P : Program} {w : World} {K : PySem.W.Frag} {mg : Str → Option Value} {base : Heap}
/-! ### _law_kinds_refused -/
def spKR (K : PySem.W.Frag) (CL : Addr) (T : List (Addr × Str)) : Sp := fun vs H Q _ => ∃ (m : Addr) (v : V) (ws : List (List Int)) (d : PyData) (Tn : String), vs = [.ref m, v] ∧ LineAt K CL H m ws ∧ Lp K CL H v d ∧ PlD K H v Tn ∧ betD d 0 ((ws.length : Nat) - 1) = false ∧ LamX.Tabs T H ∧
  ∀ H', LamX.ExtN H H' → LamX.Tabs T H' → Q (.bl true) H'
set_option maxHeartbeats 16000000 in
theorem ok_kinds_refused {f fs f1 CL Ck Co Cl Cw Ct Gap c P' : Addr} {fd fds fd1 : FuncData} {k kB : Nat} {C : Nat → Addr} {T : List (Addr × Str)} (F : Fun K "_law_kinds_refused" "_law_kinds_refused" s_l_kinds_refused f fd) (hc : fd.code = .ref c) (TB : LamX.TabB base mg c P')
    (hmT0 : (P', lamQ "_law_kinds_refused") ∈ T) (hu0 : ∀ p ∈ T, p.1 = P' → p.2 = lamQ "_law_kinds_refused") (SK : SaidKit P w K mg base k kB C CL Ck Co Cl Cw Ct Gap fs f1 fds fd1) :
    FnG P w K mg base (k + 3) f fd ["_law_made_here", "_law_bad"] (spKR K CL T) := by
  obtain ⟨ocs, ods, kVs, docs, pms, ans, cdvs, cts, osls, rfl, lks, hcds⟩ := SK.F.ex
  refine fnG_mkC F hc sc_l_kinds_refused (fun vs H Q h => ?_) (fun A outer s H vs Q hgd hr h => ?_)
  · obtain ⟨m, v, ws, d, Tn, rfl, _⟩ := h; rfl
  · obtain ⟨m, v, ws, d, Tn, rfl, hL, hd, hp, hb, hT, q⟩ := h
    have big : 1000 ≤ sizeLine := by rw [sizeLine_eq]; decide
    let X0 : Cx := (cxOf CX0 P w K mg base ["_law_made_here", "_law_bad", "_law_words"] "_law_kinds_refused" (defScope s_l_kinds_refused) f (.ref c) A outer s H E0).nox
    have eq0 : X0.env.qual ++ ("<lambda>" : Str) = lamQ "_law_kinds_refused" := rfl
    have hmT : (P', X0.env.qual ++ ("<lambda>" : Str)) ∈ T := by rw [eq0]; exact hmT0
    have hu : ∀ p ∈ T, p.1 = P' → p.2 = X0.env.qual ++ ("<lambda>" : Str) := by rw [eq0]; exact hu0
    have sg := fun (q : Str) => said_gives (X := X0) (q := q) (g := fs) (cdg := cdvs) (C := C) (Gap := Gap) (Ct := Ct) hgd (hr.mono (show k + 1 ≤ k + 2 by omega)) SK.XF SK.x1 SK.x2 SK.G1 SK.kp1 SK.b1 SK.g1 SK.me SK.m1
    have hkB := SK.hkB
    have hu64 : X0.A.units + 64 < cLine := by
      have h := hr.un
      have e : X0.A.units = (A.deeper (envOfC "_law_kinds_refused" (defScope s_l_kinds_refused) s.heap.objs.size f (.ref c))).units := rfl
      omega
    refine ⟨_, pss_cons (ps_set (i := 2) sc_l_kinds_refused.nd rfl (.inl rfl) (pe_lst (pa_cons (LamX.pe_lamcall (T := T) (by rfl) SK.g SK.kp lks hcds SK.b sc_l_said rfl (.inl rfl) (sg _) TB rfl hmT hu hr (LamX.lamS_by (by show LamX.lamSB (defScope s_l_kinds_refused) _ = true; decide +kernel)) rfl (fun _ _ _ _ _ => rfl)
          (fun A2 outer2 s2 H2 E2 f2 c2 hr2 => SK.B.pItem (K := K) rfl (hr2.mono (by omega)) (passE (takes_of rfl rfl rfl rfl)) (pv 0) (pv 1))) pa_nil)))
      (pss_cons (ps_expr (pe_bm PySem.F.plainAttrs_list PySem.F.slot_list_append PySem.F.type_list_append mt_append (pv 2) (pa_cons (LamX.pe_lamcall (T := T) (by rfl) SK.g SK.kp lks hcds SK.b sc_l_said rfl (.inl rfl) (sg _) TB rfl hmT hu hr (LamX.lamS_by (by show LamX.lamSB (defScope s_l_kinds_refused) _ = true; decide +kernel)) rfl (fun _ _ _ _ _ => rfl)
          (fun A2 outer2 s2 H2 E2 f2 c2 hr2 => SK.B.pCall (K := K) rfl (hr2.mono (by omega)) (passE (takes_of rfl rfl rfl rfl)) (pv 0) (pa_cons (pv 1) (pa_cons pe_int pa_nil)))) pa_nil)))
      (pss_cons (ps_expr (pe_bm PySem.F.plainAttrs_list PySem.F.slot_list_append PySem.F.type_list_append mt_append (pv 2) (pa_cons (LamX.pe_lamcall (T := T) (by rfl) SK.g SK.kp lks hcds SK.b sc_l_said rfl (.inl rfl) (sg _) TB rfl hmT hu hr (LamX.lamS_by (by show LamX.lamSB (defScope s_l_kinds_refused) _ = true; decide +kernel)) rfl (fun _ _ _ _ _ => rfl)
          (fun A2 outer2 s2 H2 E2 f2 c2 hr2 => SK.B.pCall (K := K) rfl (hr2.mono (by omega)) (passE (takes_of rfl rfl rfl rfl)) (pv 0) (pa_cons pe_int (pa_cons (pv 1) pa_nil)))) pa_nil)))
      (pss_cons (ps_expr (pe_bm PySem.F.plainAttrs_list PySem.F.slot_list_append PySem.F.type_list_append mt_append (pv 2) (pa_cons (LamX.pe_lamcall (T := T) (by rfl) SK.g SK.kp lks hcds SK.b sc_l_said rfl (.inl rfl) (sg _) TB rfl hmT hu hr (LamX.lamS_by (by show LamX.lamSB (defScope s_l_kinds_refused) _ = true; decide +kernel)) rfl (fun _ _ _ _ _ => rfl)
          (fun A2 outer2 s2 H2 E2 f2 c2 hr2 => SK.B.pSub (K := K) rfl (hr2.mono (by omega)) (passE (takes_of rfl rfl rfl rfl)) (pv 0) (pv 1))) pa_nil)))
      (pss_one (ps_ret (pe_cmpR (op_eqD hu64) (pv 2) (pe_op op_rep (pe_lst (pa_cons pe_str pa_nil)) pe_int) (nomark _))))))), ?_⟩
    have SKs : ∀ {Q : VK} {H : Hp}, (∀ H', Same H H' → Q (.str wKd) H') → SaidE K C Gap Ct Q (.ref Ck) none H := fun q => SK.SK.said (by decide) q
    refine ⟨hT, fun H1 x1 T1 => ⟨.ref m, rfl, v, rfl, m, rfl, (hL.ext x1).ins, m, v, ws, d, rfl, hL.ext x1, hd.ext x1, hb, SKs fun H2 s2 => ⟨by show 1 ≤ sizeLine; omega, fun l nl => ?_⟩⟩⟩
    have y2 := x1.trans (ext_of s2)
    have nl0 : ∀ o, H l = some o → ∃ ps, o = .tbl ps := fun o z => ext_free y2 nl z
    have yp1 := y2.trans (ext_of (same_new (o := .lst [V.str wKd]) nl))
    have Tp1 := tabs_same (same_new (o := .lst [V.str wKd]) nl) (tabs_same s2 T1)
    have hp1 : (upd H2 l (.lst [V.str wKd])) l = some (.lst [V.str wKd]) := upd_same
    generalize upd H2 l (.lst [V.str wKd]) = Hp1 at yp1 Tp1 hp1 ⊢
    refine ⟨.ref l, rfl, .inl ⟨rfl, _, .of hp1⟩, Tp1, fun Ha1 xa1 Ta1 => ⟨.ref m, rfl, m, rfl, v, rfl, (hL.ext (yp1.trans xa1)).ins, m, v, .int 0, ws, d, .int 0, rfl, hL.ext (yp1.trans xa1), hd.ext (yp1.trans xa1), .int 0, .inl hb, SKs fun Hb1 sb1 => ?_⟩⟩
    have xb1 := xa1.trans (ext_of sb1)
    have hb1 := xb1 _ _ hp1 fun ps z => nomatch z
    refine ⟨l, _, _, rfl, rfl, hb1, by show 1 < sizeLine; omega, ?_⟩
    have yp2 := ext_upd (u := .lst ([V.str wKd] ++ [V.str wKd])) (yp1.trans xb1) nl0
    have Tp2 := tabs_upd (o := .lst ([V.str wKd] ++ [V.str wKd])) hb1 (tabs_same sb1 Ta1)
    have hp2 : (upd Hb1 l (.lst ([V.str wKd] ++ [V.str wKd]))) l = some (.lst [V.str wKd, V.str wKd]) := upd_same
    generalize upd Hb1 l (.lst ([V.str wKd] ++ [V.str wKd])) = Hp2 at yp2 Tp2 hp2 ⊢
    refine ⟨.ref l, rfl, .inl ⟨rfl, _, .of hp2⟩, Tp2, fun Ha2 xa2 Ta2 => ⟨.ref m, rfl, m, rfl, v, rfl, (hL.ext (yp2.trans xa2)).ins, m, .int 0, v, ws, .int 0, d, rfl, hL.ext (yp2.trans xa2), .int 0, hd.ext (yp2.trans xa2), .inr hb, SKs fun Hb2 sb2 => ?_⟩⟩
    have xb2 := xa2.trans (ext_of sb2)
    have hb2 := xb2 _ _ hp2 fun ps z => nomatch z
    refine ⟨l, _, _, rfl, rfl, hb2, by show 2 < sizeLine; omega, ?_⟩
    have yp3 := ext_upd (u := .lst ([V.str wKd, V.str wKd] ++ [V.str wKd])) (yp2.trans xb2) nl0
    have Tp3 := tabs_upd (o := .lst ([V.str wKd, V.str wKd] ++ [V.str wKd])) hb2 (tabs_same sb2 Ta2)
    have hp3 : (upd Hb2 l (.lst ([V.str wKd, V.str wKd] ++ [V.str wKd]))) l = some (.lst [V.str wKd, V.str wKd, V.str wKd]) := upd_same
    generalize upd Hb2 l (.lst ([V.str wKd, V.str wKd] ++ [V.str wKd])) = Hp3 at yp3 Tp3 hp3 ⊢
    refine ⟨.ref l, rfl, .inl ⟨rfl, _, .of hp3⟩, Tp3, fun Ha3 xa3 Ta3 => ⟨.ref m, rfl, v, rfl, m, rfl, (hL.ext (yp3.trans xa3)).ins, .inl ⟨_, hp.ext (yp3.trans xa3)⟩, m, v, ws, d, rfl, hL.ext (yp3.trans xa3), hd.ext (yp3.trans xa3), .inl ⟨hb, SKs fun Hb3 sb3 => ?_⟩⟩⟩
    have xb3 := xa3.trans (ext_of sb3)
    have hb3 := xb3 _ _ hp3 fun ps z => nomatch z
    refine ⟨l, _, _, rfl, rfl, hb3, by show 3 < sizeLine; omega, ?_⟩
    have yp4 := ext_upd (u := .lst ([V.str wKd, V.str wKd, V.str wKd] ++ [V.str wKd])) (yp3.trans xb3) nl0
    have Tp4 := tabs_upd (o := .lst ([V.str wKd, V.str wKd, V.str wKd] ++ [V.str wKd])) hb3 (tabs_same sb3 Ta3)
    have hp4 : (upd Hb3 l (.lst ([V.str wKd, V.str wKd, V.str wKd] ++ [V.str wKd]))) l = some (.lst [V.str wKd, V.str wKd, V.str wKd, V.str wKd]) := upd_same
    generalize upd Hb3 l (.lst ([V.str wKd, V.str wKd, V.str wKd] ++ [V.str wKd])) = Hp4 at yp4 Tp4 hp4 ⊢
    refine ⟨.ref l, rfl, by show 1 ≤ sizeLine; omega, fun r nr => ⟨r, 4, _, rfl, rfl, upd_same, by decide, by decide, by show 1 * 4 ≤ sizeLine; omega, fun r2 nr2 => ?_⟩⟩
    have z1 := (same_new (o := .lst [V.str "! kind"]) nr).trans (same_new (o := .lst (List.replicate (4 : Int).toNat [V.str "! kind"]).flatten) nr2)
    have h11 := z1 _ _ hp4
    have hr2 : (upd (upd Hp4 r (.lst [V.str "! kind"])) r2 (.lst (List.replicate (4 : Int).toNat [V.str "! kind"]).flatten)) r2 = some (.lst [V.str "! kind", V.str "! kind", V.str "! kind", V.str "! kind"]) := upd_same
    have x11 := yp4.trans (ext_of z1)
    have T11 := tabs_same z1 Tp4
    generalize upd (upd Hp4 r (.lst [V.str "! kind"])) r2 (.lst (List.replicate (4 : Int).toNat [V.str "! kind"]).flatten) = H11 at x11 T11 h11 hr2 ⊢
    refine ⟨.list [.str wKd, .str wKd, .str wKd, .str wKd], .list [.str "! kind", .str "! kind", .str "! kind", .str "! kind"], .lst (.of h11) (.cons (.str _) (.cons (.str _) (.cons (.str _) (.cons (.str _) .nil)))), .lst (.of hr2) (.cons (.str _) (.cons (.str _) (.cons (.str _) (.cons (.str _) .nil)))), by decide +kernel, by decide +kernel, ?_⟩
    rw [show PyData.eqv (.list [.str wKd, .str wKd, .str wKd, .str wKd]) (.list [.str "! kind", .str "! kind", .str "! kind", .str "! kind"]) = true from by decide +kernel]
    exact q H11 x11 T11
end
end Sg
set_option Elab.async false
set_option linter.all false
set_option maxRecDepth 100000
set_option maxHeartbeats 4000000
namespace Sg
open PySem PySem.Spec PyProof.Rows L2 StX
section
variable {P : Program} {w : World} {K : PySem.W.Frag} {mg : Str → Option Value} {base : Heap}
/-! ### _law_thing_right -/
def spTR (K : PySem.W.Frag) (CL : Addr) (T : List (Addr × Str)) : Sp := fun vs H Q _ => ∃ (m wk : Addr) (v : V) (ws : List (List Int)) (xs : List Int), vs = [.ref m, .ref wk, v] ∧ LineAt K CL H m ws ∧ SqT K H wk (xs.map V.int) ∧ IsWork xs ∧ Th K CL H v ∧ LamX.Tabs T H ∧
  ∀ H', LamX.ExtN H H' → LamX.Tabs T H' → Q (.bl true) H'
theorem call_reprMK {X : Cx} {k : Nat} {C : Addr} (hK : X.K = K) (M : Meths2 X.prog X.w K X.mg X.base k C) (hgd : X.A.guards = some []) (hr : Room (k + 2) X.A) :
    CallR X (.builtin "repr") (fun xs H Q => ∃ v t, xs = [v] ∧ ShowM K C H v t ∧ ∀ H', Same H H' → Q (.str t) H') := by
  subst hK
  exact call_reprM M hgd hr
theorem lpWork {C : Addr} {H : Hp} {a : Addr} {xs : List Int} (h : SqT K H a (xs.map V.int)) : Lp K C H (.ref a) (tD xs) := .tup h (DpAll.lp (dpInts xs))
theorem eqv_wk (n : Nat) (h : n = 0 ∨ n = 3) : PyData.eqv (.list (List.replicate n (.str wWk))) (.list (List.replicate n (.str "! work"))) = true ∧ SeqAt.shaped (.list (List.replicate n (.str wWk))) = true ∧ SeqAt.shaped (.list (List.replicate n (.str "! work"))) = true := by
  rcases h with rfl | rfl <;> decide +kernel
theorem dp_rep {H : Hp} {x : Str} : ∀ n : Nat, DpAll K H (List.replicate n (V.str x)) (List.replicate n (PyData.str x))
  | 0 => .nil
  | n + 1 => .cons (.str x) (dp_rep n)
theorem flat_rep {α : Type} (x : α) : ∀ n : Nat, (List.replicate n [x]).flatten = List.replicate n x
  | 0 => rfl
  | n + 1 => by rw [List.replicate_succ, List.replicate_succ, List.flatten_cons, flat_rep x n]; rfl
set_option maxHeartbeats 16000000 in
theorem ok_thing_right {f fs f1 f2 f3 f4 CL Ck Co Cl Cw Ct Gap c P' : Addr} {fd fds fd1 fd2 fd3 fd4 : FuncData} {k kB kM j : Nat} {C : Nat → Addr} {T : List (Addr × Str)} (F : Fun K "_law_thing_right" "_law_thing_right" s_l_thing_right f fd) (hc : fd.code = .ref c) (TB : LamX.TabB base mg c P')
    (hmT0 : (P', lamQ "_law_thing_right") ∈ T) (hu0 : ∀ p ∈ T, p.1 = P' → p.2 = lamQ "_law_thing_right") (SK : SaidKit P w K mg base k kB C CL Ck Co Cl Cw Ct Gap fs f1 fds fd1)
    (M : Meths2 P w K mg base kM CL) (hkM : kM + 2 ≤ k) (gL : mg "Line" = some (.ref CL)) (m2 : mg "len" = none)
    (G2 : FnOk P w K mg base CX0 j f2 fd2 ["_law_thing"] (spIsWorkL K CL)) (kp2 : PySem.W.keepIn K (.ref f2) = true) (b2 : Binds K fd2 ["_law_thing"] []) (g2 : mg "_law_is_work" = some (.ref f2))
    (G3 : FnOk P w K mg base CX0 j f3 fd3 ["_law_thing", "_law_low", "_law_high"] (spBetL K CL)) (kp3 : PySem.W.keepIn K (.ref f3) = true) (b3 : Binds K fd3 ["_law_thing", "_law_low", "_law_high"] []) (g3 : mg "_law_is_whole" = some (.ref f3)) (hj : j ≤ k)
    (G4 : FnG P w K mg base (k + 3) f4 fd4 ["_law_made_here", "_law_bad"] (spKR K CL T)) (kp4 : PySem.W.keepIn K (.ref f4) = true) (b4 : Binds K fd4 ["_law_made_here", "_law_bad"] []) (g4 : mg "_law_kinds_refused" = some (.ref f4)) :
    FnG P w K mg base (k + 4) f fd ["_law_made_here", "_law_work_here", "_law_thing"] (spTR K CL T) := by
  obtain ⟨ocs, ods, kVs, docs, pms, ans, cdvs, cts, osls, rfl, lks, hcds⟩ := SK.F.ex
  refine fnG_mkC F hc sc_l_thing_right (fun vs H Q h => ?_) (fun A outer s H vs Q hgd hr h => ?_)
  · obtain ⟨m, wk, v, ws, xs, rfl, _⟩ := h; rfl
  · obtain ⟨m, wk, v, ws, xs, rfl, hL, hW, hw, hv, hT, q⟩ := h
    have big : 1000 ≤ sizeLine := by rw [sizeLine_eq]; decide
    let X0 : Cx := (cxOf CX0 P w K mg base ["_law_made_here", "_law_work_here", "_law_thing", "_law_kept", "_law_words"] "_law_thing_right" (defScope s_l_thing_right) f (.ref c) A outer s H E0).nox
    have eq0 : X0.env.qual ++ ("<lambda>" : Str) = lamQ "_law_thing_right" := rfl
    have hmT : (P', X0.env.qual ++ ("<lambda>" : Str)) ∈ T := by rw [eq0]; exact hmT0
    have hu : ∀ p ∈ T, p.1 = P' → p.2 = X0.env.qual ++ ("<lambda>" : Str) := by rw [eq0]; exact hu0
    have sg := fun (q : Str) => said_gives (X := X0) (q := q) (g := fs) (cdg := cdvs) (C := C) (Gap := Gap) (Ct := Ct) hgd (hr.mono (show k + 1 ≤ k + 3 by omega)) SK.XF SK.x1 SK.x2 SK.G1 SK.kp1 SK.b1 SK.g1 SK.me SK.m1
    have hkB := SK.hkB
    have hu64 : X0.A.units + 64 < cLine := by
      have h := hr.un
      have e : X0.A.units = (A.deeper (envOfC "_law_thing_right" (defScope s_l_thing_right) s.heap.objs.size f (.ref c))).units := rfl
      omega
    obtain ⟨⟨t, hsh⟩, ⟨d, hd⟩, Tn, hp⟩ := id hv
    refine ⟨_, pss_cons (ps_par (i := 3) (j := 4) (by rfl) sc_l_thing_right.nd rfl rfl (by decide) rfl rfl (pa_cons (pe_callB (call_reprMK (K := K) rfl M hgd (hr.mono (by omega))) (by rfl) SK.m1 (by decide +kernel) (pa_cons (pv 2) pa_nil)) (pa_cons (pe_lst pa_nil) pa_nil)) (by rfl))
      (pss_cons (ps_if (pt_not (pt_val (pe_call G2 (hr.mono (by omega)) (by rfl) g2 kp2 b2 .nil pass0 (pa_cons (pv 2) pa_nil))))
        (pss_cons (ps_expr (pe_bm PySem.F.plainAttrs_list PySem.F.slot_list_append PySem.F.type_list_append mt_append (pv 4) (pa_cons (LamX.pe_lamcall (T := T) (by rfl) SK.g SK.kp lks hcds SK.b sc_l_said rfl (.inl rfl) (sg _) TB rfl hmT hu hr (LamX.lamS_by (by show LamX.lamSB (defScope s_l_thing_right) _ = true; decide +kernel)) rfl (fun _ _ _ _ _ => rfl)
          (fun A2 outer2 s2 H2 E2 f2 c2 hr2 => SK.B.pNew (K := K) rfl (hr2.mono (by omega)) (passE (takes_of rfl rfl rfl rfl)) (x := "Line") (by rfl) gL (pa_cons (pv 2) pa_nil))) pa_nil))) (pss_cons (ps_expr (pe_bm PySem.F.plainAttrs_list PySem.F.slot_list_append PySem.F.type_list_append mt_append (pv 4) (pa_cons (LamX.pe_lamcall (T := T) (by rfl) SK.g SK.kp lks hcds SK.b sc_l_said rfl (.inl rfl) (sg _) TB rfl hmT hu hr (LamX.lamS_by (by show LamX.lamSB (defScope s_l_thing_right) _ = true; decide +kernel)) rfl (fun _ _ _ _ _ => rfl)
          (fun A2 outer2 s2 H2 E2 f2 c2 hr2 => SK.B.pNew (K := K) rfl (hr2.mono (by omega)) (passE (takes_of rfl rfl rfl rfl)) (x := "Line") (by rfl) gL (pa_cons (pv 1) (pa_cons (pv 2) pa_nil)))) pa_nil))) (pss_one (ps_expr (pe_bm PySem.F.plainAttrs_list PySem.F.slot_list_append PySem.F.type_list_append mt_append (pv 4) (pa_cons (LamX.pe_lamcall (T := T) (by rfl) SK.g SK.kp lks hcds SK.b sc_l_said rfl (.inl rfl) (sg _) TB rfl hmT hu hr (LamX.lamS_by (by show LamX.lamSB (defScope s_l_thing_right) _ = true; decide +kernel)) rfl (fun _ _ _ _ _ => rfl)
          (fun A2 outer2 s2 H2 E2 f2 c2 hr2 => SK.B.pNew (K := K) rfl (hr2.mono (by omega)) (passE (takes_of rfl rfl rfl rfl)) (x := "Line") (by rfl) gL (pa_cons (pv 1) (pa_cons (pv 1) (pa_cons (pv 1) (pa_cons (pv 2) pa_nil)))))) pa_nil)))))) pss_nil)
      (PSs.imp (t' := fun D σ H1 => ∃ (l : Addr) (n : Nat) (t : Str), σ = [some (.ref m), some (.ref wk), some v, some (.str t), some (.ref l)] ∧ (n = 0 ∨ n = 3) ∧ H1 l = some (.lst (List.replicate n (.str wWk))) ∧ LamX.ExtN H H1 ∧ LamX.Tabs T H1 ∧ ShowM K CL H v t ∧ ∀ H', LamX.ExtN H H' → LamX.Tabs T H' → D.rt (.bl true) H')
        (pss_cons (ps_if (PW.pt (pw_or (pt_cmpR (op_neD hu64) (pv 4) (pe_op op_rep (pe_lst (pa_cons pe_str pa_nil)) (pe_callB call_len_seq (by rfl) m2 PySem.boot_len (pa_cons (pv 4) pa_nil))) (nomark _))
            (pw_or1 (pt_cmpR op_ne (LamX.pe_lamcall (T := T) (by rfl) SK.g SK.kp lks hcds SK.b sc_l_said rfl (.inl rfl) (sg _) TB rfl hmT hu hr (LamX.lamS_by (by show LamX.lamSB (defScope s_l_thing_right) _ = true; decide +kernel)) rfl (fun _ _ _ _ _ => rfl)
          (fun A2 outer2 s2 H2 E2 f2 c2 hr2 => SK.B.pAdd (K := K) rfl (hr2.mono (by omega)) (passE (takes_of rfl rfl rfl rfl)) (pv 0) (pv 2))) pe_str (nomark _))))) (pss_one (ps_ret pe_bl)) pss_nil)
        (pss_cons (ps_if (PW.pt (pw_and (pt_not (pt_val (pe_call G3 (hr.mono (by omega)) (by rfl) g3 kp3 b3 .nil pass0 (pa_cons (pv 2) (pa_cons pe_int (pa_cons (pe_op op_sub (pe_callB (cLenK (K := K) M.m rfl (hr.mono (by omega))) (by rfl) m2 PySem.boot_len (pa_cons (pv 0) pa_nil)) pe_int) pa_nil))))))
            (pw_and1 (pt_not (pt_val (pe_callG G4 hgd (hr.mono (by omega)) (by rfl) g4 kp4 b4 (pa_cons (pv 0) (pa_cons (pv 2) pa_nil)))))))) (pss_one (ps_ret pe_bl)) pss_nil)
        (PSs.imp (t' := fun D σ H1 => ∃ (l : Addr) (t : Str), σ = [some (.ref m), some (.ref wk), some v, some (.str t), some (.ref l)] ∧ LamX.ExtN H H1 ∧ LamX.Tabs T H1 ∧ ShowM K CL H v t ∧ ∀ H', LamX.ExtN H H' → LamX.Tabs T H' → D.rt (.bl true) H') (pss_one (ps_ret (pe_and (pe_cmpR op_isBl (pe_cmpR (SK.B.oEq (K := K) rfl (hr.mono (by omega))) (pv 0) (pv 2) (nomark _)) pe_bl (nomark _))
          (pe_and (pe_cmpR op_isBl (pe_cmpR (SK.B.oNe (K := K) rfl (hr.mono (by omega))) (pv 0) (pv 2) (nomark _)) pe_bl (nomark _))
            (pe_one (pe_cmpR op_eq (pe_callB (call_reprMK (K := K) rfl M hgd (hr.mono (by omega))) (by rfl) SK.m1 (by decide +kernel) (pa_cons (pv 2) pa_nil)) (pv 3) (nomark _))))))) (fun D σ H1 h => ?_))))
        (fun D σ H1 h => ?_))), ?_⟩
    · obtain ⟨l, t, rfl, x1, T1, hsh, qq⟩ := h
      refine ⟨.ref m, rfl, v, rfl, m, Tn, ws, rfl, hL.ext x1, hp.ext x1, false, false, rfl, rfl, true, rfl, ?_⟩
      refine iteT ⟨.ref m, rfl, v, rfl, m, Tn, ws, rfl, hL.ext x1, hp.ext x1, true, true, rfl, rfl, true, rfl, ?_⟩
      refine iteT ⟨v, rfl, v, t, rfl, hsh.ext x1, fun H2 s2 => ⟨.str t, rfl, rfl, ?_⟩⟩
      have e : V.bl (decide (V.str t = V.str t)) = V.bl true := by rw [decide_eq_true rfl]
      rw [e]
      exact qq _ (x1.trans (ext_of s2)) (tabs_same s2 T1)
    · obtain ⟨l, n, t, rfl, hn, hl, x1, T1, hsh, qq⟩ := h
      have SLs : ∀ {Q : VK} {H : Hp}, (∀ H', Same H H' → Q (.str wLn) H') → SaidE K C Gap Ct Q (.ref Cl) none H := fun q => SK.SL.said (by decide) q
      have hn9 : n ≤ 3 := by rcases hn with e | e <;> omega
      refine ⟨.ref l, rfl, by show 1 ≤ sizeLine; omega, fun r nr => ⟨.ref l, rfl, l, _, rfl, .inl (.of ((upd_ne (ne_of_none hl nr)).trans hl)), ?_⟩⟩
      refine ⟨r, _, _, rfl, rfl, upd_same, ?_, ?_, ?_, fun r2 nr2 => ?_⟩
      · rw [List.length_replicate]; omega
      · rw [List.length_replicate]; omega
      · rw [List.length_replicate]
        show 1 * ((n : Nat) : Int).toNat ≤ sizeLine
        rw [Int.toNat_natCast]; omega
      have z1 := (same_new (o := .lst [V.str "! work"]) nr).trans (same_new (o := .lst (List.replicate (((List.replicate n (V.str wWk)).length : Nat) : Int).toNat [V.str "! work"]).flatten) nr2)
      have h11 := z1 _ _ hl
      have hr2 : (upd (upd H1 r (.lst [V.str "! work"])) r2 (.lst (List.replicate (((List.replicate n (V.str wWk)).length : Nat) : Int).toNat [V.str "! work"]).flatten)) r2 = some (.lst (List.replicate n (.str "! work"))) := by
        rw [upd_same, flat_rep, Int.toNat_natCast, List.length_replicate]
      have x2 := x1.trans (ext_of z1)
      have T2 := tabs_same z1 T1
      generalize upd (upd H1 r (.lst [V.str "! work"])) r2 (.lst (List.replicate (((List.replicate n (V.str wWk)).length : Nat) : Int).toNat [V.str "! work"]).flatten) = H2 at x2 T2 h11 hr2 ⊢
      obtain ⟨e1, e2, e3⟩ := eqv_wk n hn
      refine ⟨.list (List.replicate n (.str wWk)), .list (List.replicate n (.str "! work")), .lst (.of h11) (dp_rep n), .lst (.of hr2) (dp_rep n), e2, e3, _, rfl, ?_⟩
      rw [e1]
      refine iteF ?_
      refine ⟨T2, fun H3 x3 T3 => ⟨.ref m, rfl, v, rfl, m, rfl, (hL.ext (x2.trans x3)).ins, .inl ⟨_, hp.ext (x2.trans x3)⟩, m, v, ws, rfl, hL.ext (x2.trans x3), .inl ⟨(hp.ext (x2.trans x3)).plain, SLs fun H4 s4 => ⟨rfl, _, rfl, ?_⟩⟩⟩⟩
      have x4 := (x2.trans x3).trans (ext_of s4)
      have T4 := tabs_same s4 T3
      refine iteF ?_
      have hL4 := hL.ext x4
      refine ⟨v, rfl, .ref m, rfl, m, ws, rfl, hL4, _, 1, rfl, rfl, v, d, 0, _, rfl, hd.ext x4, _, rfl, ?_⟩
      cases hb : betD d 0 ((ws.length : Nat) - 1) with
      | true => exact iteF (iteF ⟨l, t, rfl, x4, T4, hsh, qq⟩)
      | false =>
        exact iteT ⟨.ref m, rfl, v, rfl, m, v, ws, d, Tn, rfl, hL4, hd.ext x4, hp.ext x4, hb, T4, fun H5 x5 T5 => ⟨_, rfl, iteF ⟨l, t, rfl, x4.trans x5, T5, hsh, qq⟩⟩⟩
    · refine ⟨v, rfl, v, t, rfl, hsh, fun Hk sk => ⟨Nat.zero_le _, fun l nl => ⟨_, _, rfl, ?_⟩⟩⟩
      have SWs : ∀ {Q : VK} {H : Hp}, (∀ H', Same H H' → Q (.str wWk) H') → SaidE K C Gap Ct Q (.ref Cw) none H := fun q => SK.SW.said (by decide) q
      have y0 := (ext_of sk).trans (ext_of (same_new (o := .lst []) nl))
      have T0 := tabs_same (same_new (o := .lst []) nl) (tabs_same sk hT)
      have nl0 : ∀ o, H l = some o → ∃ ps, o = .tbl ps := fun o z => ext_free (ext_of sk) nl z
      have h0 : (upd Hk l (.lst [])) l = some (.lst []) := upd_same
      generalize upd Hk l (.lst []) = H0 at y0 T0 h0 ⊢
      refine ⟨v, rfl, v, d, rfl, hd.ext y0, fun Hw b sw hb => ⟨_, rfl, ?_⟩⟩
      have yw0 := y0.trans (ext_of sw)
      have Tw0 := tabs_same sw T0
      have hw0 := sw _ _ h0
      cases b with
      | true => exact iteF ⟨l, 0, t, rfl, .inl rfl, hw0, yw0, Tw0, hsh, q⟩
      | false =>
        have nw : ¬ WorkD d := fun z => nomatch hb.mpr z
        have few : ∀ n : Nat, n < 1000 → n ≤ sizeLine := fun n h => by omega
        refine iteT ?_
        refine ⟨.ref l, rfl, .inl ⟨rfl, _, .of hw0⟩, Tw0, fun Ha0 xa0 Ta0 => ⟨v, rfl, fun z0 dz0 nz0 nd0 ne0 => ?_⟩⟩
        have sz0 := ins_same (C := CL) nz0 nd0
        refine ⟨z0, dz0, [v], [d], rfl, upd_same, (.cons (hd.ext ((yw0.trans xa0).trans (ext_of sz0))) .nil), by show 1 ≤ 900; omega, .inl ⟨.inr ⟨d, by simp, nw⟩, fun Hc0 sc0 => SWs fun Hb0 sb0 => ?_⟩⟩
        have xb0 := xa0.trans (ext_of ((sz0.trans sc0).trans sb0))
        have hb0 := xb0 _ _ hw0 fun ps z => nomatch z
        refine ⟨l, _, _, rfl, rfl, hb0, few 1 (by decide), ?_⟩
        have yw1 := ext_upd (u := .lst ([] ++ [V.str wWk])) (yw0.trans xb0) nl0
        have Tw1 := tabs_upd (o := .lst ([] ++ [V.str wWk])) hb0 (tabs_same ((sz0.trans sc0).trans sb0) Ta0)
        have hw1 : (upd Hb0 l (.lst ([] ++ [V.str wWk]))) l = some (.lst [V.str wWk]) := upd_same
        generalize upd Hb0 l (.lst ([] ++ [V.str wWk])) = Hw1 at yw1 Tw1 hw1 ⊢
        refine ⟨.ref l, rfl, .inl ⟨rfl, _, .of hw1⟩, Tw1, fun Ha1 xa1 Ta1 => ⟨.ref wk, rfl, v, rfl, fun z1 dz1 nz1 nd1 ne1 => ?_⟩⟩
        have sz1 := ins_same (C := CL) nz1 nd1
        refine ⟨z1, dz1, [.ref wk, v], [tD xs, d], rfl, upd_same, (.cons (lpWork (ext_tup ((yw1.trans xa1).trans (ext_of sz1)) hW)) (.cons (hd.ext ((yw1.trans xa1).trans (ext_of sz1))) .nil)), by show 2 ≤ 900; omega, .inl ⟨.inr ⟨d, by simp, nw⟩, fun Hc1 sc1 => SWs fun Hb1 sb1 => ?_⟩⟩
        have xb1 := xa1.trans (ext_of ((sz1.trans sc1).trans sb1))
        have hb1 := xb1 _ _ hw1 fun ps z => nomatch z
        refine ⟨l, _, _, rfl, rfl, hb1, few 2 (by decide), ?_⟩
        have yw2 := ext_upd (u := .lst ([V.str wWk] ++ [V.str wWk])) (yw1.trans xb1) nl0
        have Tw2 := tabs_upd (o := .lst ([V.str wWk] ++ [V.str wWk])) hb1 (tabs_same ((sz1.trans sc1).trans sb1) Ta1)
        have hw2 : (upd Hb1 l (.lst ([V.str wWk] ++ [V.str wWk]))) l = some (.lst [V.str wWk, V.str wWk]) := upd_same
        generalize upd Hb1 l (.lst ([V.str wWk] ++ [V.str wWk])) = Hw2 at yw2 Tw2 hw2 ⊢
        refine ⟨.ref l, rfl, .inl ⟨rfl, _, .of hw2⟩, Tw2, fun Ha2 xa2 Ta2 => ⟨.ref wk, rfl, .ref wk, rfl, .ref wk, rfl, v, rfl, fun z2 dz2 nz2 nd2 ne2 => ?_⟩⟩
        have sz2 := ins_same (C := CL) nz2 nd2
        refine ⟨z2, dz2, [.ref wk, .ref wk, .ref wk, v], [tD xs, tD xs, tD xs, d], rfl, upd_same, (.cons (lpWork (ext_tup ((yw2.trans xa2).trans (ext_of sz2)) hW)) (.cons (lpWork (ext_tup ((yw2.trans xa2).trans (ext_of sz2)) hW)) (.cons (lpWork (ext_tup ((yw2.trans xa2).trans (ext_of sz2)) hW)) (.cons (hd.ext ((yw2.trans xa2).trans (ext_of sz2))) .nil)))), by show 4 ≤ 900; omega, .inl ⟨.inr ⟨d, by simp, nw⟩, fun Hc2 sc2 => SWs fun Hb2 sb2 => ?_⟩⟩
        have xb2 := xa2.trans (ext_of ((sz2.trans sc2).trans sb2))
        have hb2 := xb2 _ _ hw2 fun ps z => nomatch z
        refine ⟨l, _, _, rfl, rfl, hb2, few 3 (by decide), ?_⟩
        have yw3 := ext_upd (u := .lst ([V.str wWk, V.str wWk] ++ [V.str wWk])) (yw2.trans xb2) nl0
        have Tw3 := tabs_upd (o := .lst ([V.str wWk, V.str wWk] ++ [V.str wWk])) hb2 (tabs_same ((sz2.trans sc2).trans sb2) Ta2)
        have hw3 : (upd Hb2 l (.lst ([V.str wWk, V.str wWk] ++ [V.str wWk]))) l = some (.lst [V.str wWk, V.str wWk, V.str wWk]) := upd_same
        generalize upd Hb2 l (.lst ([V.str wWk, V.str wWk] ++ [V.str wWk])) = Hw3 at yw3 Tw3 hw3 ⊢
        exact ⟨l, 3, t, rfl, .inr rfl, hw3, yw3, Tw3, hsh, q⟩
end
end Sg
set_option Elab.async false
set_option linter.all false
set_option maxRecDepth 100000
set_option maxHeartbeats 4000000
namespace Sg
open PySem PySem.Spec PyProof.Rows L2 StX
theorem cut_map (xs : List Int) (lo hi : Option Int) : ∃ ys : List Int, cutV (xs.map V.int) lo hi = ys.map V.int ∧ ys.length ≤ xs.length := by
  unfold cutV
  refine ⟨(xs.drop (HT.sIx (xs.map V.int).length 0 lo)).take (HT.sIx (xs.map V.int).length (xs.map V.int).length hi - HT.sIx (xs.map V.int).length 0 lo), ?_, ?_⟩
  · rw [List.map_take, List.map_drop]
  · rw [List.length_take, List.length_drop]
    exact Nat.le_trans (Nat.min_le_right _ _) (Nat.sub_le _ _)
/-- what stands in a round of the law -/
structure Rd (K : PySem.W.Frag) (CL : Addr) (T : List (Addr × Str)) (L p tw wk m lo : Addr) (cs : List Int) (ws : List (List Int)) (xs : List Int) (H : Hp) : Prop where
  lst : H L = some (.lst (cs.map V.int))
  pen : PenAt H p
  tw : Tp K H (.ref tw) (.tuple (tDs ws))
  wk : SqT K H wk (xs.map V.int)
  m : LineAt K CL H m ws
  lo : LineAt K CL H lo [xs]
  tabs : LamX.Tabs T H
section
variable {K : PySem.W.Frag} {CL : Addr} {T : List (Addr × Str)} {L p tw wk m lo : Addr} {cs : List Int} {ws : List (List Int)} {xs : List Int} {H H' : Hp}
theorem Rd.ext (h : Rd K CL T L p tw wk m lo cs ws xs H) (e : LamX.ExtN H H') (t : LamX.Tabs T H') : Rd K CL T L p tw wk m lo cs ws xs H' :=
  ⟨e _ _ h.lst (fun ps z => nomatch z), h.pen.ext e, h.tw.ext e, ext_tup e h.wk, h.m.ext e, h.lo.ext e, t⟩
theorem Rd.same (h : Rd K CL T L p tw wk m lo cs ws xs H) (e : Same H H') : Rd K CL T L p tw wk m lo cs ws xs H' := h.ext (ext_of e) (tabs_same e h.tabs)
theorem Rd.but (h : Rd K CL T L p tw wk m lo cs ws xs H) (e : But p H H') (n : L ≠ p) (p' : PenAt H' p) : Rd K CL T L p tw wk m lo cs ws xs H' :=
  ⟨e _ _ n h.lst, p', h.tw.stay (.pen e h.pen), h.pen.tup e h.wk, h.m.stay (.pen e h.pen), h.lo.stay (.pen e h.pen), tabs_but h.pen e h.tabs⟩
end
theorem good_works {ws : List (List Int)} (h : GoodL ws) : GoodD (.tuple (tDs ws)) := by
  have all : ∀ d ∈ tDs ws, SmL 100 [d] := fun d hd => by
    obtain ⟨w, hw, rfl⟩ := List.mem_map.mp hd
    have iw := h.work w hw
    have sm := (smL_ints iw.items).le iw.most
    have dd : (tD w).depth ≤ 38 := by
      show (PyData.tuple (iD w)).depth ≤ 38
      simp only [PyData.depth]
      rw [depth_ints]; decide
    exact SmL.one (sm.tup (by decide)) dd (by show (PyData.tuple (iD w)).bulk + 1 ≤ 100; simp only [PyData.bulk]; have := sm.bk; omega)
  have := SmL.all all
  refine (this.le (m := 300) ?_).tup (by decide)
  have : (tDs ws).length = ws.length := List.length_map _
  have := h.few
  omega
theorem few_good : ∀ n ∈ List.range 4, goodB (.int ((n : Nat) : Int)) = true := by decide +kernel
def dueL (n : Nat) : List Str := ["! work", "! many (4, 3)", manyS n, "! one", "! kind"]
def saidL (n : Nat) : List Str := [wWk, manyS 4, manyS n, wOn, wKd]
theorem said_due : ∀ n ∈ List.range 7, PyData.eqv (.list ((saidL n).map PyData.str)) (.list ((dueL n).map PyData.str)) = true ∧ SeqAt.shaped (.list ((saidL n).map PyData.str)) = true ∧ SeqAt.shaped (.list ((dueL n).map PyData.str)) = true := by decide +kernel
theorem dp_strs {K : PySem.W.Frag} {H : Hp} : ∀ ts : List Str, DpAll K H (ts.map V.str) (ts.map PyData.str)
  | [] => .nil
  | t :: ts => .cons (.str t) (dp_strs ts)
theorem Meths.oNeK {X : Cx} {K : PySem.W.Frag} {k : Nat} {C : Addr} (hK : X.K = K) (M : Meths X.prog X.w K X.mg X.base k C) (hr : Room (k + 2) X.A) : OpR X (compareOp .NotEq) (fun x y H Q => ∃ a b ws us, x = .ref a ∧ y = .ref b ∧ LineAt K C H a ws ∧ LineAt K C H b us ∧ Q (.bl (!decide (ws = us))) H) := by
  subst hK
  exact M.oNe hr
section
variable {P : Program} {w : World} {K : PySem.W.Frag} {mg : Str → Option Value} {base : Heap}
def spLaw (K : PySem.W.Frag) (T : List (Addr × Str)) : Sp := fun vs H Q _ => ∃ (a : Addr) (ns : List Int), vs = [.ref a] ∧ SqL K H a (ns.map V.int) ∧ ns.length ≤ 63 ∧ LamX.Tabs T H ∧ ∀ H', Q (.bl true) H'
set_option maxHeartbeats 16000000 in
theorem ok_law {f fs f1 h1 h2 h3 h4 h5 h6 h7 h8 h9 CL Ck Co Cl Cw Ct Gap c P' : Addr} {fd fds fd1 e1 e2 e3 e4 e5 e6 e7 e8 e9 : FuncData} {k kB kM j : Nat} {C : Nat → Addr} {T : List (Addr × Str)} (F : Fun K "law" "law" s_law f fd) (hc : fd.code = .ref c) (TB : LamX.TabB base mg c P')
    (hmT0 : (P', lamQ "law") ∈ T) (hu0 : ∀ p ∈ T, p.1 = P' → p.2 = lamQ "law") (SK : SaidKit P w K mg base k kB C CL Ck Co Cl Cw Ct Gap fs f1 fds fd1)
    (M : Meths2 P w K mg base kM CL) (hkM : kM + 2 ≤ k) (hj : j ≤ k + 4) (gL : mg "Line" = some (.ref CL))
    (D1 : FnOk P w K mg base CX0 j h1 e1 ["_law_script", "_law_k"] (spCell K)) (k1 : PySem.W.keepIn K (.ref h1) = true) (b1 : Binds K e1 ["_law_script", "_law_k"] []) (v1 : mg "_law_cell" = some (.ref h1))
    (D2 : FnOk P w K mg base CX0 j h2 e2 ["_law_cell_here"] spPen) (k2 : PySem.W.keepIn K (.ref h2) = true) (b2 : Binds K e2 ["_law_cell_here"] []) (v2 : mg "_law_pen" = some (.ref h2))
    (D3 : FnOk P w K mg base CX0 j h3 e3 ["_law_pen_here"] (spWorks K)) (k3 : PySem.W.keepIn K (.ref h3) = true) (b3 : Binds K e3 ["_law_pen_here"] []) (v3 : mg "_law_works" = some (.ref h3))
    (D4 : FnOk P w K mg base CX0 j h4 e4 ["_law_pen_here", "_law_most", "_law_stations"] spWorkP) (k4 : PySem.W.keepIn K (.ref h4) = true) (b4 : Binds K e4 ["_law_pen_here", "_law_most", "_law_stations"] []) (v4 : mg "_law_work" = some (.ref h4))
    (D5 : FnOk P w K mg base CX0 j h5 e5 ["_law_works_here"] (spMade K CL)) (k5 : PySem.W.keepIn K (.ref h5) = true) (b5 : Binds K e5 ["_law_works_here"] []) (v5 : mg "_law_made" = some (.ref h5))
    (D6 : FnOk P w K mg base CX0 j h6 e6 [] (spAnys K)) (k6 : PySem.W.keepIn K (.ref h6) = true) (b6 : Binds K e6 [] []) (v6 : mg "_law_odds" = some (.ref h6))
    (D7 : FnOk P w K mg base CX0 j h7 e7 [] (spAnys K)) (k7 : PySem.W.keepIn K (.ref h7) = true) (b7 : Binds K e7 [] []) (v7 : mg "_law_great" = some (.ref h7))
    (D8 : FnOk P w K mg base CX0 j h8 e8 ["_law_pen_here", "_law_row"] (spBend K)) (k8 : PySem.W.keepIn K (.ref h8) = true) (b8 : Binds K e8 ["_law_pen_here", "_law_row"] []) (v8 : mg "_law_bend" = some (.ref h8))
    (D9 : FnG P w K mg base (k + 4) h9 e9 ["_law_made_here", "_law_work_here", "_law_thing"] (spTR K CL T)) (k9 : PySem.W.keepIn K (.ref h9) = true) (b9 : Binds K e9 ["_law_made_here", "_law_work_here", "_law_thing"] []) (v9 : mg "_law_thing_right" = some (.ref h9))
    (m1 : mg "range" = none) (m2 : mg "len" = none) : FnG P w K mg base (k + 5) f fd ["_law_script"] (spLaw K T) := by
  obtain ⟨ocs, ods, kVs, docs, pms, ans, cdvs, cts, osls, rfl, lks, hcds⟩ := SK.F.ex
  refine fnG_mkC F hc sc_law (fun vs H Q h => ?_) (fun A outer s H vs Q hgd hr h => ?_)
  · obtain ⟨a, ns, rfl, _⟩ := h; rfl
  · obtain ⟨a, ns, rfl, hS, hlen, hT, q⟩ := h
    have big : 5000 ≤ sizeLine := by rw [sizeLine_eq]; decide
    let X0 : Cx := (cxOf CX0 P w K mg base ["_law_script", "_law_cell_here", "_law_pen_here", "_law_works_here", "_law_work_here", "_law_made_here", "_law_lone", "_law_things", "_law_turn", "_law_thing", "_law_words", "_law_due"] "law" (defScope s_law) f (.ref c) A outer s H E0).nox
    have eq0 : X0.env.qual ++ ("<lambda>" : Str) = lamQ "law" := rfl
    have hmT : (P', X0.env.qual ++ ("<lambda>" : Str)) ∈ T := by rw [eq0]; exact hmT0
    have hu : ∀ p ∈ T, p.1 = P' → p.2 = X0.env.qual ++ ("<lambda>" : Str) := by rw [eq0]; exact hu0
    have sg := fun (q : Str) => said_gives (X := X0) (q := q) (g := fs) (cdg := cdvs) (C := C) (Gap := Gap) (Ct := Ct) hgd (hr.mono (show k + 1 ≤ k + 4 by omega)) SK.XF SK.x1 SK.x2 SK.G1 SK.kp1 SK.b1 SK.g1 SK.me SK.m1
    have hkB := SK.hkB
    have hu64 : X0.A.units + 64 < cLine := by
      have h := hr.un
      have e : X0.A.units = (A.deeper (envOfC "law" (defScope s_law) s.heap.objs.size f (.ref c))).units := rfl
      omega
    refine ⟨_, pss_cons (ps_for PassesOwn.never rfl (pi_list (pe_op op_cat (pe_lst (pa_cons (pe_call D1 (hr.mono (by omega)) (by rfl) v1 k1 b1 .nil pass0 (pa_cons (pv 0) (pa_cons pe_int pa_nil))) pa_nil)) (pe_slice sl_list (pv 0) (po_some pe_int) (po_some pe_int)))) (pg_name (i := 1) sc_law.nd rfl (by first | exact .inl rfl | exact .inr rfl))
        (pss_cons (ps_set (i := 2) sc_law.nd rfl (by first | exact .inl rfl | exact .inr rfl) (pe_call D2 (hr.mono (by omega)) (by rfl) v2 k2 b2 .nil pass0 (pa_cons (pv 1) pa_nil)))
        (pss_cons (ps_asg (pe_tup (pa_cons (pe_call D3 (hr.mono (by omega)) (by rfl) v3 k3 b3 .nil pass0 (pa_cons (pv 2) pa_nil)) (pa_cons (pe_call D4 (hr.mono (by omega)) (by rfl) v4 k4 b4 .nil pass0 (pa_cons (pv 2) (pa_cons pe_int (pa_cons pe_int pa_nil)))) pa_nil))) (pg_tup rfl (pgs_cons (pg_name (i := 3) sc_law.nd rfl (by first | exact .inl rfl | exact .inr rfl)) (pgs_cons (pg_name (i := 4) sc_law.nd rfl (by first | exact .inl rfl | exact .inr rfl)) pgs_nil))))
        (pss_cons (ps_asg (pe_tup (pa_cons (pe_call D5 (hr.mono (by omega)) (by rfl) v5 k5 b5 .nil pass0 (pa_cons (pv 3) pa_nil)) (pa_cons (M.m.pNew (K := K) rfl (hr.mono (by omega)) (by rfl) (pa_cons (pv 4) pa_nil)) pa_nil))) (pg_tup rfl (pgs_cons (pg_name (i := 5) sc_law.nd rfl (by first | exact .inl rfl | exact .inr rfl)) (pgs_cons (pg_name (i := 6) sc_law.nd rfl (by first | exact .inl rfl | exact .inr rfl)) pgs_nil))))
        (pss_cons (ps_set (i := 7) sc_law.nd rfl (by first | exact .inl rfl | exact .inr rfl) (pe_op op_cat (pe_op op_cat (pe_call0 D6 (hr.mono (by omega)) (by rfl) v6 k6 b6 .nil pass0) (pe_call0 D7 (hr.mono (by omega)) (by rfl) v7 k7 b7 .nil pass0))
          (pe_lc (own := [("_law_turn", 8)]) (g := gName 8) (tt := tYes) rfl sc_law.nd (pi_range1 (by rfl) m1 (pa_cons pe_int pa_nil))
            (blkOk_by (N := ["_law_script", "_law_cell_here", "_law_pen_here", "_law_works_here", "_law_work_here", "_law_made_here", "_law_lone", "_law_things", "_law_turn", "_law_thing", "_law_words", "_law_due"]) (sc := defScope s_law) (by decide +kernel))
            (fun _ _ _ _ _ => pg_name (i := 8) sc_law.nd rfl (Or.inl rfl)) (fun _ _ _ _ _ => pts_nil)
            (fun _ _ _ _ _ => (pe_call D8 (hr.mono (by omega)) (by rfl) v8 k8 b8 .nil pass0 (pa_cons (pv 2) (pa_cons (pv 4) pa_nil)))))))
        (pss_cons (ps_for PassesOwn.never rfl (pi_list (pe_op op_cat (pv 7) (pe_lst (pa_cons (pv 3) (pa_cons (pe_lst (pa_cons (pv 5) pa_nil)) (pa_cons (pe_callB (cLenK (K := K) M.m rfl (hr.mono (by omega))) (by rfl) m2 PySem.boot_len (pa_cons (pv 5) pa_nil)) pa_nil)))))) (pg_name (i := 9) sc_law.nd rfl (by first | exact .inl rfl | exact .inr rfl))
          (pss_one (ps_if (pt_not (pt_val (pe_callG D9 hgd (hr.mono (by omega)) (by rfl) v9 k9 b9 (pa_cons (pv 5) (pa_cons (pv 4) (pa_cons (pv 9) pa_nil)))))) (pss_one (ps_ret pe_bl)) pss_nil)))
        (pss_cons (ps_set (i := 10) sc_law.nd rfl (by first | exact .inl rfl | exact .inr rfl) (pe_lst (pa_cons (LamX.pe_lamcall (T := T) (by rfl) SK.g SK.kp lks hcds SK.b sc_l_said rfl (.inl rfl) (sg _) TB rfl hmT hu hr (LamX.lamS_by (by show LamX.lamSB (defScope s_law) _ = true; decide +kernel)) rfl (fun _ _ _ _ _ => rfl)
          (fun A2 outer2 s2 H2 E2 f2 c2 hr2 => SK.B.pNew0 (K := K) rfl (hr2.mono (by omega)) (passE (takes_of rfl rfl rfl rfl)) (x := "Line") (by rfl) gL)) pa_nil)))
        (pss_cons (ps_expr (pe_bm PySem.F.plainAttrs_list PySem.F.slot_list_append PySem.F.type_list_append mt_append (pv 10) (pa_cons (LamX.pe_lamcall (T := T) (by rfl) SK.g SK.kp lks hcds SK.b sc_l_said rfl (.inl rfl) (sg _) TB rfl hmT hu hr (LamX.lamS_by (by show LamX.lamSB (defScope s_law) _ = true; decide +kernel)) rfl (fun _ _ _ _ _ => rfl)
          (fun A2 outer2 s2 H2 E2 f2 c2 hr2 => (SK.B.pNew (K := K) rfl (hr2.mono (by omega)) (passE (takes_of rfl rfl rfl rfl)) (x := "Line") (by rfl) gL (pa_cons (pv 4) (pa_cons (pv 4) (pa_cons (pv 4) (pa_cons (pv 4) pa_nil))))))) pa_nil)))
        (pss_cons (ps_expr (pe_bm PySem.F.plainAttrs_list PySem.F.slot_list_append PySem.F.type_list_append mt_append (pv 10) (pa_cons (LamX.pe_lamcall (T := T) (by rfl) SK.g SK.kp lks hcds SK.b sc_l_said rfl (.inl rfl) (sg _) TB rfl hmT hu hr (LamX.lamS_by (by show LamX.lamSB (defScope s_law) _ = true; decide +kernel)) rfl (fun _ _ _ _ _ => rfl)
          (fun A2 outer2 s2 H2 E2 f2 c2 hr2 => SK.B.pAdd (K := K) rfl (hr2.mono (by omega)) (passE (takes_of rfl rfl rfl rfl)) (M.m.pNew (K := K) rfl (hr2.mono (by omega)) (by rfl) (pa_cons (pv 4) (pa_cons (pv 4) (pa_cons (pv 4) pa_nil)))) (pv 5))) pa_nil)))
        (pss_cons (ps_expr (pe_bm PySem.F.plainAttrs_list PySem.F.slot_list_append PySem.F.type_list_append mt_append (pv 10) (pa_cons (LamX.pe_lamcall (T := T) (by rfl) SK.g SK.kp lks hcds SK.b sc_l_said rfl (.inl rfl) (sg _) TB rfl hmT hu hr (LamX.lamS_by (by show LamX.lamSB (defScope s_law) _ = true; decide +kernel)) rfl (fun _ _ _ _ _ => rfl)
          (fun A2 outer2 s2 H2 E2 f2 c2 hr2 => SK.B.pSub (K := K) rfl (hr2.mono (by omega)) (passE (takes_of rfl rfl rfl rfl)) (pv 6) pe_int)) pa_nil)))
        (pss_cons (ps_expr (pe_bm PySem.F.plainAttrs_list PySem.F.slot_list_append PySem.F.type_list_append mt_append (pv 10) (pa_cons (LamX.pe_lamcall (T := T) (by rfl) SK.g SK.kp lks hcds SK.b sc_l_said rfl (.inl rfl) (sg _) TB rfl hmT hu hr (LamX.lamS_by (by show LamX.lamSB (defScope s_law) _ = true; decide +kernel)) rfl (fun _ _ _ _ _ => rfl)
          (fun A2 outer2 s2 H2 E2 f2 c2 hr2 => SK.B.pSub (K := K) rfl (hr2.mono (by omega)) (passE (takes_of rfl rfl rfl rfl)) (pv 6) pe_int)) pa_nil)))
        (pss_cons (ps_set (i := 11) sc_law.nd rfl (by first | exact .inl rfl | exact .inr rfl) (pe_lst (pa_cons pe_str (pa_cons pe_str (pa_cons (pe_op op_add_str pe_str (pe_callB (call_reprU hgd hu64) (by rfl) SK.m1 (by decide +kernel) (pa_cons (pe_tup (pa_cons (pe_op op_add pe_int (pe_callB (cLenK (K := K) M.m rfl (hr.mono (by omega))) (by rfl) m2 PySem.boot_len (pa_cons (pv 5) pa_nil))) (pa_cons pe_int pa_nil))) pa_nil))) (pa_cons pe_str (pa_cons pe_str pa_nil)))))))
        (pss_one (ps_if (PW.pt (pw_or (pt_cmpR (op_neD hu64) (pv 10) (pv 11) (nomark _)) (pw_or1 (pt_cmpR (Meths.oNeK (K := K) rfl M.m (hr.mono (by omega))) (pv 5) (pe_call D5 (hr.mono (by omega)) (by rfl) v5 k5 b5 .nil pass0 (pa_cons (pv 3) pa_nil)) (nomark _))))) (pss_one (ps_ret pe_bl)) pss_nil))))))))))))))
      (pss_one (ps_ret pe_bl)), ?_⟩
    refine ⟨.ref a, rfl, a, ns, 0, rfl, hS, fun r => ?_⟩
    refine ⟨by show 1 ≤ sizeLine; omega, fun L1 n1 => ?_⟩
    have sA := same_new (o := .lst [V.int r]) n1
    have hSb : SqL K (L2.upd H L1 (.lst [V.int r])) a (ns.map V.int) := sA.seq hS
    refine ⟨.ref a, rfl, 1, rfl, 3, rfl, a, ns.map V.int, rfl, hSb, fun La n2 => ?_⟩
    obtain ⟨ys, ey, ly⟩ := cut_map ns (some 1) (some 3)
    rw [ey]
    have sB := sA.trans (same_new (o := .lst (ys.map V.int)) n2)
    have h1 : (L2.upd (L2.upd H L1 (.lst [V.int r])) La (.lst (ys.map V.int))) L1 = some (.lst [V.int r]) := by rw [upd_ne (ne_of_none upd_same n2)]; exact upd_same
    refine ⟨L1, La, [V.int r], ys.map V.int, rfl, rfl, h1, upd_same, by rw [List.length_map, List.length_singleton]; omega, fun L n => ?_⟩
    have eL : [V.int r] ++ ys.map V.int = (r :: ys).map V.int := rfl
    rw [eL]
    have hL0 : (L2.upd (L2.upd (L2.upd H L1 (.lst [V.int r])) La (.lst (ys.map V.int))) L (.lst ((r :: ys).map V.int))) L = some (.lst ((r :: ys).map V.int)) := upd_same
    have T0 := tabs_same (sB.trans (same_new (o := .lst ((r :: ys).map V.int)) n)) hT
    generalize L2.upd (L2.upd (L2.upd H L1 (.lst [V.int r])) La (.lst (ys.map V.int))) L (.lst ((r :: ys).map V.int)) = H0 at hL0 T0 ⊢
    generalize r :: ys = cs at hL0 ⊢
    clear h1 hSb sA sB n1 n2
    refine ⟨L, rfl, ⟨_, .of hL0⟩, ?_⟩
    refine for_list (xs := cs.map V.int) (fun i σ H' => ∃ v1 v2 v3 v4 v5 v6 v7 v8 v9 v10 v11, σ = [some (.ref a), v1, v2, v3, v4, v5, v6, v7, v8, v9, v10, v11] ∧ H' L = some (.lst (cs.map V.int)) ∧ LamX.Tabs T H')
      ⟨_, _, _, _, _, _, _, _, _, _, _, rfl, hL0, T0⟩ (fun i σ H' _ h => ?_) ?_ ?_
    · obtain ⟨_, _, _, _, _, _, _, _, _, _, _, _, h, _⟩ := h
      exact .of h
    rotate_left
    · rintro σ H7 _
      exact q H7
    rintro i x σ H7 hx ⟨v1, v2, v3, v4, v5, v6, v7, v8, v9, v10, v11, rfl, hL7, T7⟩
    rw [List.getElem?_map] at hx
    obtain ⟨z, hz, rfl⟩ := Option.map_eq_some_iff.mp hx
    refine ⟨.int z, rfl, z, rfl, fun H8 p np s8 p8 => ?_⟩
    have nLp : L ≠ p := ne_of_none hL7 np
    have hL8 := s8 _ _ hL7
    have T8 := tabs_same s8 T7
    refine ⟨.ref p, rfl, p, rfl, p8, fun H9 tw ws p9 e9 _ hT9 gw _ => ?_⟩
    have hL9 := e9 _ _ nLp hL8
    have T9 := tabs_but p8 e9 T8
    refine ⟨.ref p, rfl, p, 6, 3, rfl, p9, by decide, by decide, by decide, by decide, fun H10 wk xs p10 e10 _ h10 iw _ _ => ?_⟩
    have hL10 := e10 _ _ nLp hL9
    have T10 := tabs_but p9 e10 T9
    have hT10 := hT9.stay (.pen e10 p9)
    refine ⟨by show 2 ≤ sizeLine; omega, fun t1 nt1 => ?_⟩
    have s11 := same_new (o := .tup [V.ref tw, V.ref wk]) nt1
    refine ⟨t1, _, rfl, .of upd_same, rfl, _, _, rfl, _, _, rfl, rfl, ?_⟩
    have hL11 := s11 _ _ hL10
    have T11 := tabs_same s11 T10
    have hT11 := hT10.stay (.of s11)
    have p11 := p10.same s11
    have hw11 : SqT K _ wk (xs.map V.int) := Same.tup s11 (.of h10)
    generalize upd H10 t1 (.tup [V.ref tw, V.ref wk]) = H11 at hL11 T11 hT11 p11 hw11 ⊢
    clear s11 nt1 h10 hT10 T10 hL10 e10 p10 hT9 T9 hL9 e9 p9 T8 hL8 p8 s8
    refine ⟨.ref tw, rfl, tw, ws, rfl, hT11, gw, fun H12 m e12 _ hm12 => ?_⟩
    have g1 : GoodL [xs] := ⟨Nat.le_refl 1, by show 1 ≤ 3; decide, fun w hw => by rw [List.mem_singleton.mp hw]; exact iw⟩
    refine ⟨.ref wk, rfl, [xs], .on (.ofInts (Same.tup e12 hw11)) .no, g1, fun H13 lo e13 _ hlo13 => ?_⟩
    refine ⟨by show 2 ≤ sizeLine; omega, fun t2 nt2 => ?_⟩
    have s14 := same_new (o := .tup [V.ref m, V.ref lo]) nt2
    refine ⟨t2, _, rfl, .of upd_same, rfl, _, _, rfl, _, _, rfl, rfl, ?_⟩
    have R14 : Rd K CL T L p tw wk m lo cs ws xs (upd H13 t2 (.tup [V.ref m, V.ref lo])) :=
      ⟨s14 _ _ (e13 _ _ (e12 _ _ hL11)), ((p11.same e12).same e13).same s14, ((hT11.stay (.of e12)).stay (.of e13)).stay (.of s14), Same.tup s14 (Same.tup e13 (Same.tup e12 hw11)), (hm12.stay (.of e13)).stay (.of s14), hlo13.stay (.of s14), tabs_same s14 (tabs_same e13 (tabs_same e12 T11))⟩
    generalize upd H13 t2 (.tup [V.ref m, V.ref lo]) = H14 at R14 ⊢
    clear s14 nt2 hlo13 e13 hm12 e12 hL11 T11 hT11 p11 hw11
    refine ⟨rfl, fun Hb l2 x2 a1 a2 a3 a4 a5 => ⟨rfl, fun Hc l3 x3 c1 c2 c3 c4 c5 => ⟨l2, l3, x2, x3, rfl, rfl, c1 _ _ a3, c3, by omega, fun l4 n4 => ?_⟩⟩⟩
    have s4 := (a1.trans c1).trans (same_new (o := .lst (x2 ++ x3)) n4)
    have h4 : (upd Hc l4 (.lst (x2 ++ x3))) l4 = some (.lst (x2 ++ x3)) := upd_same
    have R4 := R14.same s4
    have np4 : l4 ≠ p := (R14.pen.same (a1.trans c1)).ne n4 |>.symm
    obtain ⟨yp, hyp⟩ : ∃ o, H14 p = some o := by obtain ⟨_, _, _, hp, _⟩ := R14.pen; exact ⟨_, hp⟩
    have b4 : ∀ v ∈ x2 ++ x3, Th K CL (wo p (upd Hc l4 (.lst (x2 ++ x3)))) v := fun v hv => by
      rcases List.mem_append.mp hv with z | z
      · obtain ⟨d, hd, g⟩ := a4 v z
        exact (Th.of (hd.same (nw_wo hyp)) g).same (wo_same (c1.trans (same_new n4)))
      · obtain ⟨d, hd, g⟩ := c4 v z
        exact (Th.of (hd.same (nw_wo (a1 _ _ hyp))) g).same (wo_same (same_new n4))
    have l4' : (x2 ++ x3).length ≤ 200 := by rw [List.length_append]; omega
    generalize upd Hc l4 (.lst (x2 ++ x3)) = H4 at R4 h4 b4 ⊢
    generalize x2 ++ x3 = x4 at h4 b4 l4' ⊢
    clear s4 n4 c1 c2 c3 c4 c5 a1 a2 a3 a4 a5
    refine ⟨6, rfl, by decide, by decide, fun D hD => ?_⟩
    have pD : p ≠ D := R4.pen.ne hD
    have lD : l4 ≠ D := ne_of_none h4 hD
    have npD : D ≠ p := Ne.symm pD
    refine lc_range (lo := 0) (n := (6 : Int).toNat) (fun i H' => PenAt H' p ∧ But p H4 H' ∧ ∃ acc, H' D = some (.lst acc) ∧ acc.length = i ∧ ∀ v ∈ acc, AnyS K (wo D (wo p H')) v)
      ⟨R4.pen.new hD, .of (same_new hD), [], upd_same, rfl, fun x hx => nomatch hx⟩ (fun i H' hi h => ?_) (fun H' h => ?_)
    · obtain ⟨p5, e5, acc, hac, hlen, hall⟩ := h
      have hi6 : i < 6 := hi
      have R5 := R4.but e5 nLp p5
      refine ⟨rfl, .ref p, rfl, .ref wk, rfl, p, wk, xs, rfl, p5, R5.wk, (fun y hy => by have := iw.items y hy; omega), (by have := iw.most; omega), fun H9 v p9 e9 hv => ?_⟩
      have hD9 := e9 _ _ npD hac
      have up9 : Same (wo D (wo p H9)) (wo D (wo p (upd H9 D (.lst (acc ++ [v]))))) := fun b o h => by
        obtain ⟨h1, h2⟩ := wo_some h
        obtain ⟨h3, h4⟩ := wo_some h2
        rw [wo_ne h1, wo_ne h3, upd_ne h1]; exact h4
      refine ⟨acc, hD9, by omega, p9.upd (Ne.symm npD), fun b o n e => ?_, acc ++ [v], upd_same, by rw [List.length_append]; show acc.length + 1 = i + 1; omega, fun u hu => ?_⟩
      · rw [upd_ne (ne_of_none e hD)]; exact e9 _ _ n (e5 _ _ n e)
      · rcases List.mem_append.mp hu with hu | hu
        · exact ((hall u hu).same (wo_same (wo_but e9))).same up9
        · rw [List.mem_singleton.mp hu]
          obtain ⟨_, _, _, hp8, _⟩ := p5
          exact (hv.same (wl_wo2 hp8 hac)).same up9
    obtain ⟨p5, e5, acc, hac, hlen, hall⟩ := h
    have hlen6 : acc.length = 6 := hlen
    have R5 := R4.but e5 nLp p5
    have h45 := e5 _ _ np4 h4
    refine ⟨l4, D, x4, acc, rfl, rfl, h45, hac, by omega, fun l5 n5 => ?_⟩
    have s5 := same_new (o := .lst (x4 ++ acc)) n5
    have h5 : (upd H' l5 (.lst (x4 ++ acc))) l5 = some (.lst (x4 ++ acc)) := upd_same
    have b5 : ∀ v ∈ x4 ++ acc, Th K CL (upd H' l5 (.lst (x4 ++ acc))) v := fun v hv => by
      rcases List.mem_append.mp hv with z | z
      · exact (((b4 v z).same (wo_but e5)).same wo_sub).same s5
      · obtain ⟨d, hd, g, _⟩ := (hall v z).same wo_sub
        exact ((Th.of hd g).same wo_sub).same s5
    have l5' : (x4 ++ acc).length ≤ 300 := by rw [List.length_append]; omega
    have R6 := R5.same s5
    generalize upd H' l5 (.lst (x4 ++ acc)) = H6 at R6 h5 b5 ⊢
    generalize x4 ++ acc = x5 at h5 b5 l5' ⊢
    clear s5 n5 h45 R5 hall hac hlen hlen6 e5 p5 pD lD hD b4 h4 R4 l4' np4
    have gfew := gw.few
    have gleast := gw.least
    refine ⟨.ref l5, rfl, .ref tw, rfl, .ref m, rfl, by show 1 ≤ sizeLine; omega, fun q1 nq1 => ⟨.ref m, rfl, m, ws, rfl, R6.m.stay (.of (same_new nq1)), by show 3 ≤ sizeLine; omega, fun q2 nq2 => ?_⟩⟩
    have sq1 := same_new (o := .lst [V.ref m]) nq1
    have sq2 := same_new (o := .lst [V.ref tw, V.ref q1, V.int (ws.length : Nat)]) nq2
    have sq := sq1.trans sq2
    refine ⟨l5, q2, x5, [V.ref tw, V.ref q1, V.int (ws.length : Nat)], rfl, rfl, sq _ _ h5, upd_same, by show _ + 3 ≤ _; omega, fun l6 n6 => ?_⟩
    have s7 := sq.trans (same_new (o := .lst (x5 ++ [V.ref tw, V.ref q1, V.int (ws.length : Nat)])) n6)
    have hq1 := (sq2.trans (same_new (o := .lst (x5 ++ [V.ref tw, V.ref q1, V.int (ws.length : Nat)])) n6)) _ _ (upd_same (H := H6) (a := q1) (o := .lst [V.ref m]))
    have R7 := R6.same s7
    have h6 : (upd (upd (upd H6 q1 (.lst [V.ref m])) q2 (.lst [V.ref tw, V.ref q1, V.int (ws.length : Nat)])) l6 (.lst (x5 ++ [V.ref tw, V.ref q1, V.int (ws.length : Nat)]))) l6 = some (.lst (x5 ++ [V.ref tw, V.ref q1, V.int (ws.length : Nat)])) := upd_same
    have b5' := fun v hv => (b5 v hv).same s7
    generalize upd (upd (upd H6 q1 (.lst [V.ref m])) q2 (.lst [V.ref tw, V.ref q1, V.int (ws.length : Nat)])) l6 (.lst (x5 ++ [V.ref tw, V.ref q1, V.int (ws.length : Nat)])) = H7x at R7 h6 b5' hq1 ⊢
    have b6 : ∀ v ∈ x5 ++ [V.ref tw, V.ref q1, V.int (ws.length : Nat)], Th K CL H7x v := fun v hv => by
      rcases List.mem_append.mp hv with z | z
      · exact b5' v z
      · simp only [List.mem_cons, List.not_mem_nil, or_false] at z
        rcases z with rfl | rfl | rfl
        · exact .of (.data R7.tw.dp) (good_works gw)
        · exact .lineL (.of hq1) R7.m
        · exact .of (.data (.int _)) (good_by (few_good _ (List.mem_range.mpr (by omega))))
    generalize x5 ++ [V.ref tw, V.ref q1, V.int (ws.length : Nat)] = x6 at h6 b6 ⊢
    clear b5' hq1 s7 sq sq1 sq2 n6 nq1 nq2 R6 h5 b5 l5'
    refine ⟨l6, rfl, ⟨_, .of h6⟩, ?_⟩
    refine for_list (xs := x6) (fun i σ H' => ∃ v8 v9 v10 v11, σ = [some (.ref a), some (.int z), some (.ref p), some (.ref tw), some (.ref wk), some (.ref m), some (.ref lo), some (.ref l5), v8, v9, v10, v11] ∧ Rd K CL T L p tw wk m lo cs ws xs H' ∧ H' l6 = some (.lst x6) ∧ ∀ v ∈ x6, Th K CL H' v)
      ⟨_, _, _, _, rfl, R7, h6, b6⟩ (fun i σ H' _ h => ?_) ?_ ?_
    · obtain ⟨_, _, _, _, _, _, h, _⟩ := h
      exact .of h
    · rintro i v σ H' hv ⟨v8, v9, v10, v11, rfl, R8, h8, b8⟩
      refine ⟨.ref m, rfl, .ref wk, rfl, v, rfl, m, wk, v, ws, xs, rfl, R8.m, R8.wk, iw, b8 v (List.mem_of_getElem? hv), R8.tabs, fun H'' x2 T2 => ⟨true, rfl, iteF ?_⟩⟩
      exact ⟨_, _, _, _, rfl, R8.ext x2 T2, x2 _ _ h8 (fun ps z => nomatch z), fun u hu => (b8 u hu).ext x2⟩
    rintro σ HB ⟨v8, v9, v10, v11, rfl, RB, _, _⟩
    clear R7 h6 b6
    have SWs : ∀ {Q : VK} {H : Hp}, (∀ H', Same H H' → Q (.str wWk) H') → SaidE K C Gap Ct Q (.ref Cw) none H := fun q => SK.SW.said (by decide) q
    have SKs : ∀ {Q : VK} {H : Hp}, (∀ H', Same H H' → Q (.str wKd) H') → SaidE K C Gap Ct Q (.ref Ck) none H := fun q => SK.SK.said (by decide) q
    have SOs : ∀ {Q : VK} {H : Hp}, (∀ H', Same H H' → Q (.str wOn) H') → SaidE K C Gap Ct Q (.ref Co) none H := fun q => SK.SO.said (by decide) q
    have few : ∀ n : Nat, n < 1000 → n ≤ sizeLine := fun n h => by omega
    have wkD : WorkD (tD xs) := ⟨xs, rfl, iw⟩
    refine ⟨RB.tabs, fun H1 x1 T1 => fun z0 dz0 nz0 nd0 ne0 => ?_⟩
    have sz0 := ins_same (C := CL) nz0 nd0
    refine ⟨z0, dz0, [], [], rfl, upd_same, .nil, by show 0 ≤ 900; omega, .inl ⟨.inl rfl, fun Hc0 sc0 => SWs fun H2 s2 => ⟨few 1 (by decide), fun l nl => ?_⟩⟩⟩
    have y2 := x1.trans (ext_of ((sz0.trans sc0).trans s2))
    have nl0 : ∀ o, HB l = some o → ∃ ps, o = .tbl ps := fun o z => ext_free y2 nl z
    have yp1 := y2.trans (ext_of (same_new (o := .lst [V.str (wWk)]) nl))
    have Tp1 := tabs_same (same_new (o := .lst [V.str (wWk)]) nl) (tabs_same ((sz0.trans sc0).trans s2) T1)
    have hp1 : (upd H2 l (.lst [V.str (wWk)])) l = some (.lst [V.str (wWk)]) := upd_same
    generalize upd H2 l (.lst [V.str (wWk)]) = Hp1 at yp1 Tp1 hp1 ⊢
    refine ⟨.ref l, rfl, .inl ⟨rfl, _, .of hp1⟩, Tp1, fun Ha1 xa1 Ta1 => ⟨.ref wk, rfl, .ref wk, rfl, .ref wk, rfl, .ref wk, rfl, fun z1 dz1 nz1 nd1 ne1 => ?_⟩⟩
    have sz1 := ins_same (C := CL) nz1 nd1
    refine ⟨z1, dz1, [.ref wk, .ref wk, .ref wk, .ref wk], [tD xs, tD xs, tD xs, tD xs], rfl, upd_same, (.cons (lpWork (ext_tup ((yp1.trans xa1).trans (ext_of sz1)) RB.wk)) (.cons (lpWork (ext_tup ((yp1.trans xa1).trans (ext_of sz1)) RB.wk)) (.cons (lpWork (ext_tup ((yp1.trans xa1).trans (ext_of sz1)) RB.wk)) (.cons (lpWork (ext_tup ((yp1.trans xa1).trans (ext_of sz1)) RB.wk)) .nil)))), by show 4 ≤ 900; omega, .inr ⟨fun d hd => ?_, by show 3 < 4; omega, fun Hc1 d1 sc1 hd1 => SK.SM.many (n := 4) hd1 (by decide) fun Hb1 sb1 => ?_⟩⟩
    · simp only [List.mem_cons, List.not_mem_nil, or_false, or_self] at hd
      rw [hd]; exact wkD
    have xb1 := xa1.trans (ext_of ((sz1.trans sc1).trans sb1))
    have hb1 := xb1 _ _ hp1 fun ps z => nomatch z
    refine ⟨l, _, _, rfl, rfl, hb1, few 2 (by decide), ?_⟩
    have yp2 := ext_upd (u := .lst ([V.str (wWk)] ++ [V.str (manyS 4)])) (yp1.trans xb1) nl0
    have Tp2 := tabs_upd (o := .lst ([V.str (wWk)] ++ [V.str (manyS 4)])) hb1 (tabs_same ((sz1.trans sc1).trans sb1) Ta1)
    have hp2 : (upd Hb1 l (.lst ([V.str (wWk)] ++ [V.str (manyS 4)]))) l = some (.lst [V.str (wWk), V.str (manyS 4)]) := upd_same
    generalize upd Hb1 l (.lst ([V.str (wWk)] ++ [V.str (manyS 4)])) = Hp2 at yp2 Tp2 hp2 ⊢
    have g3 : GoodL [xs, xs, xs] := ⟨by show 1 ≤ 3; decide, by show 3 ≤ 3; decide, fun w hw => by
      simp only [List.mem_cons, List.not_mem_nil, or_false, or_self] at hw
      rw [hw]; exact iw⟩
    refine ⟨.ref l, rfl, .inl ⟨rfl, _, .of hp2⟩, Tp2, fun Ha2 xa2 Ta2 => ⟨.ref wk, rfl, .ref wk, rfl, .ref wk, rfl, [xs, xs, xs], .on (.ofInts (ext_tup (yp2.trans xa2) RB.wk)) (.on (.ofInts (ext_tup (yp2.trans xa2) RB.wk)) (.on (.ofInts (ext_tup (yp2.trans xa2) RB.wk)) .no)), g3, fun Hd2 n3 sd2 _ hn3 => ?_⟩⟩
    have hm2 := RB.m.ext ((yp2.trans xa2).trans (ext_of sd2))
    refine ⟨.ref m, rfl, n3, rfl, hn3.ins, .inr ⟨m, rfl, hm2.ins⟩, n3, .ref m, [xs, xs, xs], rfl, hn3, .inr ⟨m, ws, rfl, hm2, by show 3 < 3 + ws.length; omega, fun Hc2 d2 sc2 hd2 => SK.SM.many (n := 3 + ws.length) hd2 (by omega) fun Hb2 sb2 => ?_⟩⟩
    have xb2 := xa2.trans (ext_of ((sd2.trans sc2).trans sb2))
    have hb2 := xb2 _ _ hp2 fun ps z => nomatch z
    refine ⟨l, _, _, rfl, rfl, hb2, few 3 (by decide), ?_⟩
    have yp3 := ext_upd (u := .lst ([V.str (wWk), V.str (manyS 4)] ++ [V.str (manyS (3 + ws.length))])) (yp2.trans xb2) nl0
    have Tp3 := tabs_upd (o := .lst ([V.str (wWk), V.str (manyS 4)] ++ [V.str (manyS (3 + ws.length))])) hb2 (tabs_same ((sd2.trans sc2).trans sb2) Ta2)
    have hp3 : (upd Hb2 l (.lst ([V.str (wWk), V.str (manyS 4)] ++ [V.str (manyS (3 + ws.length))]))) l = some (.lst [V.str (wWk), V.str (manyS 4), V.str (manyS (3 + ws.length))]) := upd_same
    generalize upd Hb2 l (.lst ([V.str (wWk), V.str (manyS 4)] ++ [V.str (manyS (3 + ws.length))])) = Hp3 at yp3 Tp3 hp3 ⊢
    have ho3 := fun Ha3 (xa3 : LamX.ExtN Hp3 Ha3) => RB.lo.ext (yp3.trans xa3)
    refine ⟨.ref l, rfl, .inl ⟨rfl, _, .of hp3⟩, Tp3, fun Ha3 xa3 Ta3 => ⟨.ref lo, rfl, lo, rfl, (ho3 _ xa3).ins, .inl ⟨_, .int 0⟩, lo, .int 0, [xs], .int 0, rfl, ho3 _ xa3, .int 0, .inr ⟨rfl, rfl, SOs fun Hb3 sb3 => ?_⟩⟩⟩
    have xb3 := xa3.trans (ext_of sb3)
    have hb3 := xb3 _ _ hp3 fun ps z => nomatch z
    refine ⟨l, _, _, rfl, rfl, hb3, few 4 (by decide), ?_⟩
    have yp4 := ext_upd (u := .lst ([V.str (wWk), V.str (manyS 4), V.str (manyS (3 + ws.length))] ++ [V.str (wOn)])) (yp3.trans xb3) nl0
    have Tp4 := tabs_upd (o := .lst ([V.str (wWk), V.str (manyS 4), V.str (manyS (3 + ws.length))] ++ [V.str (wOn)])) hb3 (tabs_same sb3 Ta3)
    have hp4 : (upd Hb3 l (.lst ([V.str (wWk), V.str (manyS 4), V.str (manyS (3 + ws.length))] ++ [V.str (wOn)]))) l = some (.lst [V.str (wWk), V.str (manyS 4), V.str (manyS (3 + ws.length)), V.str (wOn)]) := upd_same
    generalize upd Hb3 l (.lst ([V.str (wWk), V.str (manyS 4), V.str (manyS (3 + ws.length))] ++ [V.str (wOn)])) = Hp4 at yp4 Tp4 hp4 ⊢
    have ho4 := fun Ha4 (xa4 : LamX.ExtN Hp4 Ha4) => RB.lo.ext (yp4.trans xa4)
    refine ⟨.ref l, rfl, .inl ⟨rfl, _, .of hp4⟩, Tp4, fun Ha4 xa4 Ta4 => ⟨.ref lo, rfl, lo, rfl, (ho4 _ xa4).ins, .inl ⟨_, .int 1⟩, lo, .int 1, [xs], .int 1, rfl, ho4 _ xa4, .int 1, .inl ⟨rfl, SKs fun Hb4 sb4 => ?_⟩⟩⟩
    have xb4 := xa4.trans (ext_of sb4)
    have hb4 := xb4 _ _ hp4 fun ps z => nomatch z
    refine ⟨l, _, _, rfl, rfl, hb4, few 5 (by decide), ?_⟩
    have yp5 := ext_upd (u := .lst ([V.str (wWk), V.str (manyS 4), V.str (manyS (3 + ws.length)), V.str (wOn)] ++ [V.str (wKd)])) (yp4.trans xb4) nl0
    have Tp5 := tabs_upd (o := .lst ([V.str (wWk), V.str (manyS 4), V.str (manyS (3 + ws.length)), V.str (wOn)] ++ [V.str (wKd)])) hb4 (tabs_same sb4 Ta4)
    have hp5 : (upd Hb4 l (.lst ([V.str (wWk), V.str (manyS 4), V.str (manyS (3 + ws.length)), V.str (wOn)] ++ [V.str (wKd)]))) l = some (.lst [V.str (wWk), V.str (manyS 4), V.str (manyS (3 + ws.length)), V.str (wOn), V.str (wKd)]) := upd_same
    generalize upd Hb4 l (.lst ([V.str (wWk), V.str (manyS 4), V.str (manyS (3 + ws.length)), V.str (wOn)] ++ [V.str (wKd)])) = Hp5 at yp5 Tp5 hp5 ⊢
    have R9 := RB.ext yp5 Tp5
    obtain ⟨lg, hlg⟩ : ∃ lg, lg = ws.length := ⟨_, rfl⟩
    have e3 : (3 + ((ws.length : Nat) : Int)) = (((3 + ws.length : Nat)) : Int) := by omega
    obtain ⟨hs3, hg3⟩ := many_short (3 + ws.length) (List.mem_range.mpr (by omega))
    refine ⟨.ref m, rfl, m, ws, rfl, R9.m, 3, _, rfl, rfl, few 2 (by decide), fun t9 nt9 => ?_⟩
    have hg4 : GoodD (tD [3 + ((ws.length : Nat) : Int), 3]) := by rw [e3]; exact good_by hg3
    have ej : V.str (PyData.tuple [.int (3 + ((ws.length : Nat) : Int)), .int 3]).shown = V.str (tD [(((3 + ws.length : Nat)) : Int), 3]).shown := by rw [← e3]; rfl
    refine ⟨t9, _, [.int (3 + ((ws.length : Nat) : Int)), .int 3], rfl, .of upd_same, .cons (.int _) (.cons (.int 3) .nil), hg4, _, (tD [(((3 + ws.length : Nat)) : Int), 3]).shown, rfl, ej, ?_, ?_⟩
    · show 7 + (tD [(((3 + ws.length : Nat)) : Int), 3]).shown.length ≤ _
      omega
    refine ⟨few 5 (by decide), fun ld nd9 => ?_⟩
    have s9 := (same_new (o := .tup [V.int (3 + ((ws.length : Nat) : Int)), V.int 3]) nt9).trans (same_new (o := .lst ((dueL (3 + ws.length)).map V.str)) nd9)
    have hl9 := s9 _ _ hp5
    have R10 := R9.same s9
    have hd9 : (upd (upd Hp5 t9 (.tup [V.int (3 + ((ws.length : Nat) : Int)), V.int 3])) ld (.lst ((dueL (3 + ws.length)).map V.str))) ld = some (.lst ((dueL (3 + ws.length)).map V.str)) := upd_same
    obtain ⟨q1, q2, q3⟩ := said_due (3 + ws.length) (List.mem_range.mpr (by omega))
    refine ⟨.ref l, rfl, .ref ld, rfl, .list ((saidL (3 + ws.length)).map PyData.str), .list ((dueL (3 + ws.length)).map PyData.str), .lst (.of hl9) (dp_strs (saidL (3 + ws.length))), .lst (.of hd9) (dp_strs (dueL (3 + ws.length))), q2, q3, _, rfl, ?_⟩
    rw [q1]
    refine iteF ⟨.ref m, rfl, .ref tw, rfl, tw, ws, rfl, R10.tw, gw, fun HZ x9 sz9 _ hx9 => ⟨m, x9, ws, ws, rfl, rfl, R10.m.stay (.of sz9), hx9, _, rfl, ?_⟩⟩
    rw [decide_eq_true rfl]
    have R11 := R10.same sz9
    exact iteF ⟨_, _, _, _, _, _, _, _, _, _, _, rfl, R11.lst, R11.tabs⟩
end
end Sg
set_option Elab.async false
set_option linter.all false
set_option maxRecDepth 100000
set_option maxHeartbeats 4000000
namespace Sg
open PySem PySem.Spec PyProof.Rows L2 StX
theorem kit_tno {K : PySem.W.Frag} {T : String} {C : Addr} (i : PySem.W.isClsIn K C = true) (t : PySem.W.typeIn K (.ref C) = some (.type "type")) (s : PySem.W.subIn K (.type T) (.ref C) = some false) : PySem.W.kitOne K (.type T) (.ref C) = some false := by
  unfold PySem.W.kitOne
  rw [if_neg (by simp)]
  have i' : (PySem.W.clsIn K C).isSome = true := i
  show (if ((PySem.W.clsIn K C).isSome && PySem.W.typeIn K (.ref C) == some (.type "type")) = true then PySem.W.subIn K (.type T) (.ref C) else none) = some false
  rw [i', t]
  exact s
theorem kit_ty_no {K : PySem.W.Frag} {u : String} {C : Addr} (m : PySem.W.kitMeta u = true) (s : PySem.W.subIn K (.ref C) (.type u) = some false) : PySem.W.kitOne K (.ref C) (.type u) = some false := by
  unfold PySem.W.kitOne
  rw [if_neg (by simp)]
  show (if PySem.W.kitMeta u = true then PySem.W.subIn K (.ref C) (.type u) else none) = some false
  rw [if_pos m]
  exact s
def lamNs : List Str := ["_law_kinds_refused", "_law_thing_right", "law"]
def spT (cs : List (Addr × Addr)) (K : PySem.W.Frag) : Sp := spLaw K ((cs.zip lamNs).map fun q => (q.1.2, lamQ q.2))
theorem spT_end (cs : List (Addr × Addr)) (K : PySem.W.Frag) (H : Hp) (a : Addr) (ns : List Int) (hl : ns.length ≤ 63) (hO : ∀ p ∈ cs, H p.2 = some (.tbl #[])) (hS : SqL K H a (ns.map V.int)) : spT cs K [.ref a] H (fun v _ => v = .bl true) E0 :=
  ⟨a, ns, rfl, hS, hl, fun x hx => by
    obtain ⟨p, hp, rfl⟩ := List.mem_map.mp hx
    exact LamX.TabS.nil (hO p.1 (List.of_mem_zip hp).1), fun _ => rfl⟩
theorem all_mk {nmO qO : Str} {bsO bmO subO : List Value} {snO : List Str} {abO : Bool} {colO : Option Bool} {ddO : Option Addr} {k0O k1O k2O k3O k5O : Option Value} {l : PySem.W.OpenLaw} {w : World} {q : Program} {K : PySem.W.Frag} {h : Heap} {mg : Str → Option Value} {fa fd0 fd1 fd2 fd3 fd4 fd5 fd6 fd7 fd8 fd9 fd10 fd11 fd12 fd13 fd14 fd15 fd16 fd17 fd18 fd19 fd20 fd21 fd22 fd23 fd24 fd25 C fm0 fm1 fm2 fm3 fm4 fm5 fm6 fm7 fm8 pp0 fp0 fRadd C0 C1 C2 C3 C4 C5 C6 C7 C8 C9 C10 C11 C12 C13 C14 C15 C16 C17 C18 C19 C20 C21 C22 C23 C24 C25 C26 C27 Gp cL0 PL0 cL1 PL1 cL2 PL2 NO fTI : Addr} {tu_NOWHERE tu_STATIONS tu_MOST_ITEMS tu_MOST_WORKS : Tok} {rsp0 : List Value} {fo ro o_NoneType_add o_NoneType_radd o_NoneType_sub o_NoneType_rsub o_bool_add o_bool_radd o_bool_sub o_bool_rsub o_int_add o_int_radd o_int_sub o_int_rsub o_str_add o_str_radd o_str_sub o_str_rsub o_list_add o_list_radd o_list_sub o_list_rsub o_tuple_add o_tuple_radd o_tuple_sub o_tuple_rsub o_dict_add o_dict_radd o_dict_sub o_dict_rsub : Option Value} {odd0 and0 odd1 and1 odd2 and2 odd3 and3 odd4 and4 odd5 and5 odd6 and6 odd7 and7 odd8 and8 odd9 and9 odd10 and10 odd11 and11 odd12 and12 odd13 and13 odd14 and14 odd15 and15 odd16 and16 odd17 and17 odd18 and18 odd19 and19 odd20 and20 odd21 and21 odd22 and22 odd23 and23 odd24 and24 odd25 and25 odm0 anm0 odm1 anm1 odm2 anm2 odm3 anm3 odm4 anm4 odm5 anm5 odm6 anm6 odm7 anm7 odm8 anm8 odp0 anp0 odTI anTI : Option Addr} {sld0 sld1 sld2 sld3 sld4 sld5 sld6 sld7 sld8 sld9 sld10 sld11 sld12 sld13 sld14 sld15 sld16 sld17 sld18 sld19 sld20 sld21 sld22 sld23 sld24 sld25 slm0 slm1 slm2 slm3 slm4 slm5 slm6 slm7 slm8 slp0 slTI : Array (Option Value)} {ocd0 kVd0 dcd0 pmd0 cdd0 ctd0 ocd1 kVd1 dcd1 pmd1 cdd1 ctd1 ocd2 kVd2 dcd2 pmd2 cdd2 ctd2 ocd3 kVd3 dcd3 pmd3 cdd3 ctd3 ocd4 kVd4 dcd4 pmd4 cdd4 ctd4 ocd5 kVd5 dcd5 pmd5 cdd5 ctd5 ocd6 kVd6 dcd6 pmd6 cdd6 ctd6 ocd7 kVd7 dcd7 pmd7 cdd7 ctd7 ocd8 kVd8 dcd8 pmd8 cdd8 ctd8 ocd9 kVd9 dcd9 pmd9 cdd9 ctd9 ocd10 kVd10 dcd10 pmd10 cdd10 ctd10 ocd11 kVd11 dcd11 pmd11 cdd11 ctd11 ocd12 kVd12 dcd12 pmd12 cdd12 ctd12 ocd13 kVd13 dcd13 pmd13 cdd13 ctd13 ocd14 kVd14 dcd14 pmd14 cdd14 ctd14 ocd15 kVd15 dcd15 pmd15 cdd15 ctd15 ocd16 kVd16 dcd16 pmd16 cdd16 ctd16 ocd17 kVd17 dcd17 pmd17 cdd17 ctd17 ocd18 kVd18 dcd18 pmd18 cdd18 ctd18 ocd19 kVd19 dcd19 pmd19 cdd19 ctd19 ocd20 kVd20 dcd20 pmd20 cdd20 ctd20 ocd21 kVd21 dcd21 pmd21 cdd21 ctd21 ocd22 kVd22 dcd22 pmd22 cdd22 ctd22 ocd23 kVd23 dcd23 pmd23 cdd23 ctd23 ocd24 kVd24 dcd24 pmd24 cdd24 ctd24 ocd25 kVd25 dcd25 pmd25 cdd25 ctd25 ocm0 kVm0 dcm0 pmm0 cdm0 ctm0 ocm1 kVm1 dcm1 pmm1 cdm1 ctm1 ocm2 kVm2 dcm2 pmm2 cdm2 ctm2 ocm3 kVm3 dcm3 pmm3 cdm3 ctm3 ocm4 kVm4 dcm4 pmm4 cdm4 ctm4 ocm5 kVm5 dcm5 pmm5 cdm5 ctm5 ocm6 kVm6 dcm6 pmm6 cdm6 ctm6 ocm7 kVm7 dcm7 pmm7 cdm7 ctm7 ocm8 kVm8 dcm8 pmm8 cdm8 ctm8 ocp0 kVp0 dcp0 pmp0 cdp0 ctp0 ocTI kVTI dcTI pmTI cdTI ctTI : Value} {ocL0 : Value} {odL0 : Option Addr} {vsL0 : Array Value} {slL0 : Array (Option Value)} {ocL1 : Value} {odL1 : Option Addr} {vsL1 : Array Value} {slL1 : Array (Option Value)} {ocL2 : Value} {odL2 : Option Addr} {vsL2 : Array Value} {slL2 : Array (Option Value)} (X : K.In h) (G : h.Ns mainGlobals mg) (hfa : mg "law" = some (.ref fa))
    (ad0 : PySem.W.nsIn K mainGlobals "is_int" = some (some (.ref fd0)))
    (ld0 : K.lookup fd0 = some ⟨ocd0, odd0, .func (PySem.W.fnOf "is_int" "is_int" (defArgs s_is_int) (defBody s_is_int) (defScope s_is_int) .none kVd0 dcd0 pmd0 and0 cdd0 ctd0), sld0⟩)
    (cd0 : PySem.W.codeIn K cdd0 "is_int" = true)
    (kd0 : PySem.W.keepIn K (.ref fd0) = true)
    (ad1 : PySem.W.nsIn K mainGlobals "is_between" = some (some (.ref fd1)))
    (ld1 : K.lookup fd1 = some ⟨ocd1, odd1, .func (PySem.W.fnOf "is_between" "is_between" (defArgs s_is_between) (defBody s_is_between) (defScope s_is_between) .none kVd1 dcd1 pmd1 and1 cdd1 ctd1), sld1⟩)
    (cd1 : PySem.W.codeIn K cdd1 "is_between" = true)
    (kd1 : PySem.W.keepIn K (.ref fd1) = true)
    (ad2 : PySem.W.nsIn K mainGlobals "is_work" = some (some (.ref fd2)))
    (ld2 : K.lookup fd2 = some ⟨ocd2, odd2, .func (PySem.W.fnOf "is_work" "is_work" (defArgs s_is_work) (defBody s_is_work) (defScope s_is_work) .none kVd2 dcd2 pmd2 and2 cdd2 ctd2), sld2⟩)
    (cd2 : PySem.W.codeIn K cdd2 "is_work" = true)
    (kd2 : PySem.W.keepIn K (.ref fd2) = true)
    (ad3 : PySem.W.nsIn K mainGlobals "bars" = some (some (.ref fd3)))
    (ld3 : K.lookup fd3 = some ⟨ocd3, odd3, .func (PySem.W.fnOf "bars" "bars" (defArgs s_bars) (defBody s_bars) (defScope s_bars) .none kVd3 dcd3 pmd3 and3 cdd3 ctd3), sld3⟩)
    (cd3 : PySem.W.codeIn K cdd3 "bars" = true)
    (kd3 : PySem.W.keepIn K (.ref fd3) = true)
    (ad4 : PySem.W.nsIn K mainGlobals "require_work" = some (some (.ref fd4)))
    (ld4 : K.lookup fd4 = some ⟨ocd4, odd4, .func (PySem.W.fnOf "require_work" "require_work" (defArgs s_require_work) (defBody s_require_work) (defScope s_require_work) .none kVd4 dcd4 pmd4 and4 cdd4 ctd4), sld4⟩)
    (cd4 : PySem.W.codeIn K cdd4 "require_work" = true)
    (kd4 : PySem.W.keepIn K (.ref fd4) = true)
    (ad5 : PySem.W.nsIn K mainGlobals "_clashes_behind" = some (some (.ref fd5)))
    (ld5 : K.lookup fd5 = some ⟨ocd5, odd5, .func (PySem.W.fnOf "_clashes_behind" "_clashes_behind" (defArgs s_clashes_behind) (defBody s_clashes_behind) (defScope s_clashes_behind) .none kVd5 dcd5 pmd5 and5 cdd5 ctd5), sld5⟩)
    (cd5 : PySem.W.codeIn K cdd5 "_clashes_behind" = true)
    (kd5 : PySem.W.keepIn K (.ref fd5) = true)
    (ad6 : PySem.W.nsIn K mainGlobals "is_kind" = some (some (.ref fd6)))
    (ld6 : K.lookup fd6 = some ⟨ocd6, odd6, .func (PySem.W.fnOf "is_kind" "is_kind" (defArgs s_is_kind) (defBody s_is_kind) (defScope s_is_kind) .none kVd6 dcd6 pmd6 and6 cdd6 ctd6), sld6⟩)
    (cd6 : PySem.W.codeIn K cdd6 "is_kind" = true)
    (kd6 : PySem.W.keepIn K (.ref fd6) = true)
    (ad7 : PySem.W.nsIn K mainGlobals "require_kind" = some (some (.ref fd7)))
    (ld7 : K.lookup fd7 = some ⟨ocd7, odd7, .func (PySem.W.fnOf "require_kind" "require_kind" (defArgs s_require_kind) (defBody s_require_kind) (defScope s_require_kind) .none kVd7 dcd7 pmd7 and7 cdd7 ctd7), sld7⟩)
    (cd7 : PySem.W.codeIn K cdd7 "require_kind" = true)
    (kd7 : PySem.W.keepIn K (.ref fd7) = true)
    (ad8 : PySem.W.nsIn K mainGlobals "_bars_of_all" = some (some (.ref fd8)))
    (ld8 : K.lookup fd8 = some ⟨ocd8, odd8, .func (PySem.W.fnOf "_bars_of_all" "_bars_of_all" (defArgs s_bars_of_all) (defBody s_bars_of_all) (defScope s_bars_of_all) .none kVd8 dcd8 pmd8 and8 cdd8 ctd8), sld8⟩)
    (cd8 : PySem.W.codeIn K cdd8 "_bars_of_all" = true)
    (kd8 : PySem.W.keepIn K (.ref fd8) = true)
    (ad9 : PySem.W.nsIn K mainGlobals "_law_cell" = some (some (.ref fd9)))
    (ld9 : K.lookup fd9 = some ⟨ocd9, odd9, .func (PySem.W.fnOf "_law_cell" "_law_cell" (defArgs s_l_cell) (defBody s_l_cell) (defScope s_l_cell) .none kVd9 dcd9 pmd9 and9 cdd9 ctd9), sld9⟩)
    (cd9 : PySem.W.codeIn K cdd9 "_law_cell" = true)
    (kd9 : PySem.W.keepIn K (.ref fd9) = true)
    (ad10 : PySem.W.nsIn K mainGlobals "_law_pen" = some (some (.ref fd10)))
    (ld10 : K.lookup fd10 = some ⟨ocd10, odd10, .func (PySem.W.fnOf "_law_pen" "_law_pen" (defArgs s_l_pen) (defBody s_l_pen) (defScope s_l_pen) .none kVd10 dcd10 pmd10 and10 cdd10 ctd10), sld10⟩)
    (cd10 : PySem.W.codeIn K cdd10 "_law_pen" = true)
    (kd10 : PySem.W.keepIn K (.ref fd10) = true)
    (ad11 : PySem.W.nsIn K mainGlobals "_law_draw" = some (some (.ref fd11)))
    (ld11 : K.lookup fd11 = some ⟨ocd11, odd11, .func (PySem.W.fnOf "_law_draw" "_law_draw" (defArgs s_l_draw) (defBody s_l_draw) (defScope s_l_draw) .none kVd11 dcd11 pmd11 and11 cdd11 ctd11), sld11⟩)
    (cd11 : PySem.W.codeIn K cdd11 "_law_draw" = true)
    (kd11 : PySem.W.keepIn K (.ref fd11) = true)
    (ad12 : PySem.W.nsIn K mainGlobals "_law_pick" = some (some (.ref fd12)))
    (ld12 : K.lookup fd12 = some ⟨ocd12, odd12, .func (PySem.W.fnOf "_law_pick" "_law_pick" (defArgs s_l_pick) (defBody s_l_pick) (defScope s_l_pick) .none kVd12 dcd12 pmd12 and12 cdd12 ctd12), sld12⟩)
    (cd12 : PySem.W.codeIn K cdd12 "_law_pick" = true)
    (kd12 : PySem.W.keepIn K (.ref fd12) = true)
    (ad13 : PySem.W.nsIn K mainGlobals "_law_is_whole" = some (some (.ref fd13)))
    (ld13 : K.lookup fd13 = some ⟨ocd13, odd13, .func (PySem.W.fnOf "_law_is_whole" "_law_is_whole" (defArgs s_l_is_whole) (defBody s_l_is_whole) (defScope s_l_is_whole) .none kVd13 dcd13 pmd13 and13 cdd13 ctd13), sld13⟩)
    (cd13 : PySem.W.codeIn K cdd13 "_law_is_whole" = true)
    (kd13 : PySem.W.keepIn K (.ref fd13) = true)
    (ad14 : PySem.W.nsIn K mainGlobals "_law_is_work" = some (some (.ref fd14)))
    (ld14 : K.lookup fd14 = some ⟨ocd14, odd14, .func (PySem.W.fnOf "_law_is_work" "_law_is_work" (defArgs s_l_is_work) (defBody s_l_is_work) (defScope s_l_is_work) .none kVd14 dcd14 pmd14 and14 cdd14 ctd14), sld14⟩)
    (cd14 : PySem.W.codeIn K cdd14 "_law_is_work" = true)
    (kd14 : PySem.W.keepIn K (.ref fd14) = true)
    (ad15 : PySem.W.nsIn K mainGlobals "_law_work" = some (some (.ref fd15)))
    (ld15 : K.lookup fd15 = some ⟨ocd15, odd15, .func (PySem.W.fnOf "_law_work" "_law_work" (defArgs s_l_work) (defBody s_l_work) (defScope s_l_work) .none kVd15 dcd15 pmd15 and15 cdd15 ctd15), sld15⟩)
    (cd15 : PySem.W.codeIn K cdd15 "_law_work" = true)
    (kd15 : PySem.W.keepIn K (.ref fd15) = true)
    (ad16 : PySem.W.nsIn K mainGlobals "_law_made" = some (some (.ref fd16)))
    (ld16 : K.lookup fd16 = some ⟨ocd16, odd16, .func (PySem.W.fnOf "_law_made" "_law_made" (defArgs s_l_made) (defBody s_l_made) (defScope s_l_made) .none kVd16 dcd16 pmd16 and16 cdd16 ctd16), sld16⟩)
    (cd16 : PySem.W.codeIn K cdd16 "_law_made" = true)
    (kd16 : PySem.W.keepIn K (.ref fd16) = true)
    (ad17 : PySem.W.nsIn K mainGlobals "_law_works" = some (some (.ref fd17)))
    (ld17 : K.lookup fd17 = some ⟨ocd17, odd17, .func (PySem.W.fnOf "_law_works" "_law_works" (defArgs s_l_works) (defBody s_l_works) (defScope s_l_works) .none kVd17 dcd17 pmd17 and17 cdd17 ctd17), sld17⟩)
    (cd17 : PySem.W.codeIn K cdd17 "_law_works" = true)
    (kd17 : PySem.W.keepIn K (.ref fd17) = true)
    (ad18 : PySem.W.nsIn K mainGlobals "_law_odds" = some (some (.ref fd18)))
    (ld18 : K.lookup fd18 = some ⟨ocd18, odd18, .func (PySem.W.fnOf "_law_odds" "_law_odds" (defArgs s_l_odds) (defBody s_l_odds) (defScope s_l_odds) .none kVd18 dcd18 pmd18 and18 cdd18 ctd18), sld18⟩)
    (cd18 : PySem.W.codeIn K cdd18 "_law_odds" = true)
    (kd18 : PySem.W.keepIn K (.ref fd18) = true)
    (ad19 : PySem.W.nsIn K mainGlobals "_law_great" = some (some (.ref fd19)))
    (ld19 : K.lookup fd19 = some ⟨ocd19, odd19, .func (PySem.W.fnOf "_law_great" "_law_great" (defArgs s_l_great) (defBody s_l_great) (defScope s_l_great) .none kVd19 dcd19 pmd19 and19 cdd19 ctd19), sld19⟩)
    (cd19 : PySem.W.codeIn K cdd19 "_law_great" = true)
    (kd19 : PySem.W.keepIn K (.ref fd19) = true)
    (ad20 : PySem.W.nsIn K mainGlobals "_law_bend" = some (some (.ref fd20)))
    (ld20 : K.lookup fd20 = some ⟨ocd20, odd20, .func (PySem.W.fnOf "_law_bend" "_law_bend" (defArgs s_l_bend) (defBody s_l_bend) (defScope s_l_bend) .none kVd20 dcd20 pmd20 and20 cdd20 ctd20), sld20⟩)
    (cd20 : PySem.W.codeIn K cdd20 "_law_bend" = true)
    (kd20 : PySem.W.keepIn K (.ref fd20) = true)
    (ad21 : PySem.W.nsIn K mainGlobals "_law_kind" = some (some (.ref fd21)))
    (ld21 : K.lookup fd21 = some ⟨ocd21, odd21, .func (PySem.W.fnOf "_law_kind" "_law_kind" (defArgs s_l_kind) (defBody s_l_kind) (defScope s_l_kind) .none kVd21 dcd21 pmd21 and21 cdd21 ctd21), sld21⟩)
    (cd21 : PySem.W.codeIn K cdd21 "_law_kind" = true)
    (kd21 : PySem.W.keepIn K (.ref fd21) = true)
    (ad22 : PySem.W.nsIn K mainGlobals "_law_said" = some (some (.ref fd22)))
    (ld22 : K.lookup fd22 = some ⟨ocd22, odd22, .func (PySem.W.fnOf "_law_said" "_law_said" (defArgs s_l_said) (defBody s_l_said) (defScope s_l_said) .none kVd22 dcd22 pmd22 and22 cdd22 ctd22), sld22⟩)
    (cd22 : PySem.W.codeIn K cdd22 "_law_said" = true)
    (kd22 : PySem.W.keepIn K (.ref fd22) = true)
    (ad23 : PySem.W.nsIn K mainGlobals "_law_kinds_refused" = some (some (.ref fd23)))
    (ld23 : K.lookup fd23 = some ⟨ocd23, odd23, .func (PySem.W.fnOf "_law_kinds_refused" "_law_kinds_refused" (defArgs s_l_kinds_refused) (defBody s_l_kinds_refused) (defScope s_l_kinds_refused) .none kVd23 dcd23 pmd23 and23 cdd23 ctd23), sld23⟩)
    (cd23 : PySem.W.codeIn K cdd23 "_law_kinds_refused" = true)
    (kd23 : PySem.W.keepIn K (.ref fd23) = true)
    (ad24 : PySem.W.nsIn K mainGlobals "_law_thing_right" = some (some (.ref fd24)))
    (ld24 : K.lookup fd24 = some ⟨ocd24, odd24, .func (PySem.W.fnOf "_law_thing_right" "_law_thing_right" (defArgs s_l_thing_right) (defBody s_l_thing_right) (defScope s_l_thing_right) .none kVd24 dcd24 pmd24 and24 cdd24 ctd24), sld24⟩)
    (cd24 : PySem.W.codeIn K cdd24 "_law_thing_right" = true)
    (kd24 : PySem.W.keepIn K (.ref fd24) = true)
    (ad25 : PySem.W.nsIn K mainGlobals "law" = some (some (.ref fd25)))
    (ld25 : K.lookup fd25 = some ⟨ocd25, odd25, .func (PySem.W.fnOf "law" "law" (defArgs s_law) (defBody s_law) (defScope s_law) .none kVd25 dcd25 pmd25 and25 cdd25 ctd25), sld25⟩)
    (cd25 : PySem.W.codeIn K cdd25 "law" = true)
    (kd25 : PySem.W.keepIn K (.ref fd25) = true)
    (aC : PySem.W.nsIn K mainGlobals "Line" = some (some (.ref C)))
    (am0 : PySem.W.findIn K (.ref C) "__init__" = some (some (.ref fm0)))
    (im0 : PySem.W.isFn K (.ref fm0) = true)
    (lm0 : K.lookup fm0 = some ⟨ocm0, odm0, .func (PySem.W.fnOf "__init__" "Line.__init__" (defArgs s_Line_init) (defBody s_Line_init) (defScope s_Line_init) .none kVm0 dcm0 pmm0 anm0 cdm0 ctm0), slm0⟩)
    (cm0 : PySem.W.codeIn K cdm0 "Line.__init__" = true)
    (km0 : PySem.W.keepIn K (.ref fm0) = true)
    (am1 : PySem.W.findIn K (.ref C) "__len__" = some (some (.ref fm1)))
    (im1 : PySem.W.isFn K (.ref fm1) = true)
    (lm1 : K.lookup fm1 = some ⟨ocm1, odm1, .func (PySem.W.fnOf "__len__" "Line.__len__" (defArgs s_Line_len) (defBody s_Line_len) (defScope s_Line_len) .none kVm1 dcm1 pmm1 anm1 cdm1 ctm1), slm1⟩)
    (cm1 : PySem.W.codeIn K cdm1 "Line.__len__" = true)
    (km1 : PySem.W.keepIn K (.ref fm1) = true)
    (am2 : PySem.W.findIn K (.ref C) "__call__" = some (some (.ref fm2)))
    (im2 : PySem.W.isFn K (.ref fm2) = true)
    (lm2 : K.lookup fm2 = some ⟨ocm2, odm2, .func (PySem.W.fnOf "__call__" "Line.__call__" (defArgs s_Line_call) (defBody s_Line_call) (defScope s_Line_call) .none kVm2 dcm2 pmm2 anm2 cdm2 ctm2), slm2⟩)
    (cm2 : PySem.W.codeIn K cdm2 "Line.__call__" = true)
    (km2 : PySem.W.keepIn K (.ref fm2) = true)
    (am3 : PySem.W.findIn K (.ref C) "__add__" = some (some (.ref fm3)))
    (im3 : PySem.W.isFn K (.ref fm3) = true)
    (lm3 : K.lookup fm3 = some ⟨ocm3, odm3, .func (PySem.W.fnOf "__add__" "Line.__add__" (defArgs s_Line_add) (defBody s_Line_add) (defScope s_Line_add) .none kVm3 dcm3 pmm3 anm3 cdm3 ctm3), slm3⟩)
    (cm3 : PySem.W.codeIn K cdm3 "Line.__add__" = true)
    (km3 : PySem.W.keepIn K (.ref fm3) = true)
    (am4 : PySem.W.findIn K (.ref C) "__sub__" = some (some (.ref fm4)))
    (im4 : PySem.W.isFn K (.ref fm4) = true)
    (lm4 : K.lookup fm4 = some ⟨ocm4, odm4, .func (PySem.W.fnOf "__sub__" "Line.__sub__" (defArgs s_Line_sub) (defBody s_Line_sub) (defScope s_Line_sub) .none kVm4 dcm4 pmm4 anm4 cdm4 ctm4), slm4⟩)
    (cm4 : PySem.W.codeIn K cdm4 "Line.__sub__" = true)
    (km4 : PySem.W.keepIn K (.ref fm4) = true)
    (am5 : PySem.W.findIn K (.ref C) "__neg__" = some (some (.ref fm5)))
    (im5 : PySem.W.isFn K (.ref fm5) = true)
    (lm5 : K.lookup fm5 = some ⟨ocm5, odm5, .func (PySem.W.fnOf "__neg__" "Line.__neg__" (defArgs s_Line_neg) (defBody s_Line_neg) (defScope s_Line_neg) .none kVm5 dcm5 pmm5 anm5 cdm5 ctm5), slm5⟩)
    (cm5 : PySem.W.codeIn K cdm5 "Line.__neg__" = true)
    (km5 : PySem.W.keepIn K (.ref fm5) = true)
    (am6 : PySem.W.findIn K (.ref C) "__eq__" = some (some (.ref fm6)))
    (im6 : PySem.W.isFn K (.ref fm6) = true)
    (lm6 : K.lookup fm6 = some ⟨ocm6, odm6, .func (PySem.W.fnOf "__eq__" "Line.__eq__" (defArgs s_Line_eq) (defBody s_Line_eq) (defScope s_Line_eq) .none kVm6 dcm6 pmm6 anm6 cdm6 ctm6), slm6⟩)
    (cm6 : PySem.W.codeIn K cdm6 "Line.__eq__" = true)
    (km6 : PySem.W.keepIn K (.ref fm6) = true)
    (am7 : PySem.W.findIn K (.ref C) "__getitem__" = some (some (.ref fm7)))
    (im7 : PySem.W.isFn K (.ref fm7) = true)
    (lm7 : K.lookup fm7 = some ⟨ocm7, odm7, .func (PySem.W.fnOf "__getitem__" "Line.__getitem__" (defArgs s_Line_getitem) (defBody s_Line_getitem) (defScope s_Line_getitem) .none kVm7 dcm7 pmm7 anm7 cdm7 ctm7), slm7⟩)
    (cm7 : PySem.W.codeIn K cdm7 "Line.__getitem__" = true)
    (km7 : PySem.W.keepIn K (.ref fm7) = true)
    (am8 : PySem.W.findIn K (.ref C) "__repr__" = some (some (.ref fm8)))
    (im8 : PySem.W.isFn K (.ref fm8) = true)
    (lm8 : K.lookup fm8 = some ⟨ocm8, odm8, .func (PySem.W.fnOf "__repr__" "Line.__repr__" (defArgs s_Line_repr) (defBody s_Line_repr) (defScope s_Line_repr) .none kVm8 dcm8 pmm8 anm8 cdm8 ctm8), slm8⟩)
    (cm8 : PySem.W.codeIn K cdm8 "Line.__repr__" = true)
    (km8 : PySem.W.keepIn K (.ref fm8) = true)
    (ap0 : PySem.W.findIn K (.ref C) "works" = some (some (.ref pp0)))
    (gp0 : PySem.W.specialIn K (.ref pp0) "__get__" = some (some (.builtin "property.__get__")))
    (tp0 : PySem.W.takesIn K (.ref pp0) = some true)
    (rp0 : PySem.W.recIn K pp0 "property" = some (.ref fp0 :: rsp0))
    (lp0 : K.lookup fp0 = some ⟨ocp0, odp0, .func (PySem.W.fnOf "works" "Line.works" (defArgs s_Line_works) (defBody s_Line_works) (defScope s_Line_works) .none kVp0 dcp0 pmp0 anp0 cdp0 ctp0), slp0⟩)
    (cp0 : PySem.W.codeIn K cdp0 "Line.works" = true)
    (kp0 : PySem.W.keepIn K (.ref fp0) = true)
    (pg : PySem.W.plainGet K C Str.empty = true)
    (hd : PySem.W.hasDictIn K C = true)
    (po : PySem.W.plainOver K C = true)
    (sa : PySem.W.findIn K (.ref C) "__setattr__" = some (some (.builtin "object.__setattr__")))
    (mk : PySem.W.makesIn K C = true)
    (kc : PySem.W.keepIn K (.ref C) = true)
    (nW : PySem.W.findIn K (.ref C) "_works" = some none)
    (nB : PySem.W.findIn K (.ref C) "_bars" = some none)
    (nR : PySem.W.findIn K (.ref C) "_reach" = some none)
    (ha : PySem.W.findIn K (.ref C) "__class__" = some (some (.builtin "object.__class__")))
    (hn : PySem.W.specialIn K (.builtin "object.__class__") "__get__" = some (some (.builtin "getset_descriptor.__get__")))
    (ht : PySem.W.takesIn K (.builtin "object.__class__") = some true)
    (hm : PySem.W.mroIn K C (.type "object") = some true)
    (sf : PySem.W.selfFirst K C = true)
    (rs : PySem.W.findIn K (.ref C) "__rsub__" = some none)
    (is1 : PySem.W.findIn K (.type "int") "__sub__" = some fo)
    (ir1 : PySem.W.findIn K (.type "int") "__rsub__" = some ro)
    (nsub : PySem.W.subIn K (.type "int") (.ref C) = some false)
    (ne : PySem.W.findIn K (.ref C) "__ne__" = some (some (.builtin "object.__ne__")))
    (ob : PySem.W.subIn K (.ref C) (.type "object") = some true)
    (fi : PySem.W.fnIn K fm2 = true)
    (fg : PySem.W.fnIn K fm7 = true)
    (iCl : PySem.W.isClsIn K C = true)
    (tCl : PySem.W.typeIn K (.ref C) = some (.type "type"))
    (ns_NoneType : PySem.W.subIn K (.type "NoneType") (.ref C) = some false)
    (ns_bool : PySem.W.subIn K (.type "bool") (.ref C) = some false)
    (ns_int : PySem.W.subIn K (.type "int") (.ref C) = some false)
    (ns_str : PySem.W.subIn K (.type "str") (.ref C) = some false)
    (ns_list : PySem.W.subIn K (.type "list") (.ref C) = some false)
    (ns_tuple : PySem.W.subIn K (.type "tuple") (.ref C) = some false)
    (ns_dict : PySem.W.subIn K (.type "dict") (.ref C) = some false)
    (nt_tuple : PySem.W.subIn K (.ref C) (.type "tuple") = some false)
    (nt_int : PySem.W.subIn K (.ref C) (.type "int") = some false)
    (nt_bool : PySem.W.subIn K (.ref C) (.type "bool") = some false)
    (nt_str : PySem.W.subIn K (.ref C) (.type "str") = some false)
    (nt_list : PySem.W.subIn K (.ref C) (.type "list") = some false)
    (op_NoneType_add : PySem.W.findIn K (.type "NoneType") "__add__" = some o_NoneType_add)
    (op_NoneType_radd : PySem.W.findIn K (.type "NoneType") "__radd__" = some o_NoneType_radd)
    (op_NoneType_sub : PySem.W.findIn K (.type "NoneType") "__sub__" = some o_NoneType_sub)
    (op_NoneType_rsub : PySem.W.findIn K (.type "NoneType") "__rsub__" = some o_NoneType_rsub)
    (op_bool_add : PySem.W.findIn K (.type "bool") "__add__" = some o_bool_add)
    (op_bool_radd : PySem.W.findIn K (.type "bool") "__radd__" = some o_bool_radd)
    (op_bool_sub : PySem.W.findIn K (.type "bool") "__sub__" = some o_bool_sub)
    (op_bool_rsub : PySem.W.findIn K (.type "bool") "__rsub__" = some o_bool_rsub)
    (op_int_add : PySem.W.findIn K (.type "int") "__add__" = some o_int_add)
    (op_int_radd : PySem.W.findIn K (.type "int") "__radd__" = some o_int_radd)
    (op_int_sub : PySem.W.findIn K (.type "int") "__sub__" = some o_int_sub)
    (op_int_rsub : PySem.W.findIn K (.type "int") "__rsub__" = some o_int_rsub)
    (op_str_add : PySem.W.findIn K (.type "str") "__add__" = some o_str_add)
    (op_str_radd : PySem.W.findIn K (.type "str") "__radd__" = some o_str_radd)
    (op_str_sub : PySem.W.findIn K (.type "str") "__sub__" = some o_str_sub)
    (op_str_rsub : PySem.W.findIn K (.type "str") "__rsub__" = some o_str_rsub)
    (op_list_add : PySem.W.findIn K (.type "list") "__add__" = some o_list_add)
    (op_list_radd : PySem.W.findIn K (.type "list") "__radd__" = some o_list_radd)
    (op_list_sub : PySem.W.findIn K (.type "list") "__sub__" = some o_list_sub)
    (op_list_rsub : PySem.W.findIn K (.type "list") "__rsub__" = some o_list_rsub)
    (op_tuple_add : PySem.W.findIn K (.type "tuple") "__add__" = some o_tuple_add)
    (op_tuple_radd : PySem.W.findIn K (.type "tuple") "__radd__" = some o_tuple_radd)
    (op_tuple_sub : PySem.W.findIn K (.type "tuple") "__sub__" = some o_tuple_sub)
    (op_tuple_rsub : PySem.W.findIn K (.type "tuple") "__rsub__" = some o_tuple_rsub)
    (op_dict_add : PySem.W.findIn K (.type "dict") "__add__" = some o_dict_add)
    (op_dict_radd : PySem.W.findIn K (.type "dict") "__radd__" = some o_dict_radd)
    (op_dict_sub : PySem.W.findIn K (.type "dict") "__sub__" = some o_dict_sub)
    (op_dict_rsub : PySem.W.findIn K (.type "dict") "__rsub__" = some o_dict_rsub)
    (raC : PySem.W.findIn K (.ref C) "__radd__" = some (some (.ref fRadd)))
    (z_isinstance : PySem.W.nsIn K mainGlobals "isinstance" = some none)
    (z_int : PySem.W.nsIn K mainGlobals "int" = some none)
    (z_bool : PySem.W.nsIn K mainGlobals "bool" = some none)
    (z_tuple : PySem.W.nsIn K mainGlobals "tuple" = some none)
    (z_len : PySem.W.nsIn K mainGlobals "len" = some none)
    (z_all : PySem.W.nsIn K mainGlobals "all" = some none)
    (z_any : PySem.W.nsIn K mainGlobals "any" = some none)
    (z_zip : PySem.W.nsIn K mainGlobals "zip" = some none)
    (z_range : PySem.W.nsIn K mainGlobals "range" = some none)
    (z_max : PySem.W.nsIn K mainGlobals "max" = some none)
    (z_str : PySem.W.nsIn K mainGlobals "str" = some none)
    (z_list : PySem.W.nsIn K mainGlobals "list" = some none)
    (z_repr : PySem.W.nsIn K mainGlobals "repr" = some none)
    (z_ValueError : PySem.W.nsIn K mainGlobals "ValueError" = some none)
    (u_NOWHERE : PySem.W.nsIn K mainGlobals "NOWHERE" = some (some (.int (-1) tu_NOWHERE)))
    (u_STATIONS : PySem.W.nsIn K mainGlobals "STATIONS" = some (some (.int (10) tu_STATIONS)))
    (u_MOST_ITEMS : PySem.W.nsIn K mainGlobals "MOST_ITEMS" = some (some (.int (60) tu_MOST_ITEMS)))
    (u_MOST_WORKS : PySem.W.nsIn K mainGlobals "MOST_WORKS" = some (some (.int (3) tu_MOST_WORKS)))
    (aC0 : PySem.W.nsIn K mainGlobals "NoWork" = some (some (.ref C0)))
    (iC0 : PySem.W.isClsIn K C0 = true)
    (tC0 : PySem.W.typeIn K (.ref C0) = some (.type "type"))
    (aC1 : PySem.W.nsIn K mainGlobals "NoLine" = some (some (.ref C1)))
    (iC1 : PySem.W.isClsIn K C1 = true)
    (tC1 : PySem.W.typeIn K (.ref C1) = some (.type "type"))
    (aC2 : PySem.W.nsIn K mainGlobals "NoKind" = some (some (.ref C2)))
    (iC2 : PySem.W.isClsIn K C2 = true)
    (tC2 : PySem.W.typeIn K (.ref C2) = some (.type "type"))
    (aC3 : PySem.W.nsIn K mainGlobals "OnlyOne" = some (some (.ref C3)))
    (iC3 : PySem.W.isClsIn K C3 = true)
    (tC3 : PySem.W.typeIn K (.ref C3) = some (.type "type"))
    (aC4 : PySem.W.nsIn K mainGlobals "NoPlan" = some (some (.ref C4)))
    (iC4 : PySem.W.isClsIn K C4 = true)
    (tC4 : PySem.W.typeIn K (.ref C4) = some (.type "type"))
    (aC5 : PySem.W.nsIn K mainGlobals "NoKinds" = some (some (.ref C5)))
    (iC5 : PySem.W.isClsIn K C5 = true)
    (tC5 : PySem.W.typeIn K (.ref C5) = some (.type "type"))
    (aC6 : PySem.W.nsIn K mainGlobals "NoCounts" = some (some (.ref C6)))
    (iC6 : PySem.W.isClsIn K C6 = true)
    (tC6 : PySem.W.typeIn K (.ref C6) = some (.type "type"))
    (aC7 : PySem.W.nsIn K mainGlobals "NoState" = some (some (.ref C7)))
    (iC7 : PySem.W.isClsIn K C7 = true)
    (tC7 : PySem.W.typeIn K (.ref C7) = some (.type "type"))
    (aC8 : PySem.W.nsIn K mainGlobals "NoChoice" = some (some (.ref C8)))
    (iC8 : PySem.W.isClsIn K C8 = true)
    (tC8 : PySem.W.typeIn K (.ref C8) = some (.type "type"))
    (aC9 : PySem.W.nsIn K mainGlobals "NoTick" = some (some (.ref C9)))
    (iC9 : PySem.W.isClsIn K C9 = true)
    (tC9 : PySem.W.typeIn K (.ref C9) = some (.type "type"))
    (aC10 : PySem.W.nsIn K mainGlobals "NoLap" = some (some (.ref C10)))
    (iC10 : PySem.W.isClsIn K C10 = true)
    (tC10 : PySem.W.typeIn K (.ref C10) = some (.type "type"))
    (aC11 : PySem.W.nsIn K mainGlobals "NotFitting" = some (some (.ref C11)))
    (iC11 : PySem.W.isClsIn K C11 = true)
    (tC11 : PySem.W.typeIn K (.ref C11) = some (.type "type"))
    (aC12 : PySem.W.nsIn K mainGlobals "NoWorths" = some (some (.ref C12)))
    (iC12 : PySem.W.isClsIn K C12 = true)
    (tC12 : PySem.W.typeIn K (.ref C12) = some (.type "type"))
    (aC13 : PySem.W.nsIn K mainGlobals "NoWaits" = some (some (.ref C13)))
    (iC13 : PySem.W.isClsIn K C13 = true)
    (tC13 : PySem.W.typeIn K (.ref C13) = some (.type "type"))
    (aC14 : PySem.W.nsIn K mainGlobals "NoDistance" = some (some (.ref C14)))
    (iC14 : PySem.W.isClsIn K C14 = true)
    (tC14 : PySem.W.typeIn K (.ref C14) = some (.type "type"))
    (aC15 : PySem.W.nsIn K mainGlobals "NotTwo" = some (some (.ref C15)))
    (iC15 : PySem.W.isClsIn K C15 = true)
    (tC15 : PySem.W.typeIn K (.ref C15) = some (.type "type"))
    (aC16 : PySem.W.nsIn K mainGlobals "NoRate" = some (some (.ref C16)))
    (iC16 : PySem.W.isClsIn K C16 = true)
    (tC16 : PySem.W.typeIn K (.ref C16) = some (.type "type"))
    (aC17 : PySem.W.nsIn K mainGlobals "NoBars" = some (some (.ref C17)))
    (iC17 : PySem.W.isClsIn K C17 = true)
    (tC17 : PySem.W.typeIn K (.ref C17) = some (.type "type"))
    (aC18 : PySem.W.nsIn K mainGlobals "NoTicks" = some (some (.ref C18)))
    (iC18 : PySem.W.isClsIn K C18 = true)
    (tC18 : PySem.W.typeIn K (.ref C18) = some (.type "type"))
    (aC19 : PySem.W.nsIn K mainGlobals "NoStation" = some (some (.ref C19)))
    (iC19 : PySem.W.isClsIn K C19 = true)
    (tC19 : PySem.W.typeIn K (.ref C19) = some (.type "type"))
    (aC20 : PySem.W.nsIn K mainGlobals "NoPace" = some (some (.ref C20)))
    (iC20 : PySem.W.isClsIn K C20 = true)
    (tC20 : PySem.W.typeIn K (.ref C20) = some (.type "type"))
    (aC21 : PySem.W.nsIn K mainGlobals "NoText" = some (some (.ref C21)))
    (iC21 : PySem.W.isClsIn K C21 = true)
    (tC21 : PySem.W.typeIn K (.ref C21) = some (.type "type"))
    (aC22 : PySem.W.nsIn K mainGlobals "NothingDone" = some (some (.ref C22)))
    (iC22 : PySem.W.isClsIn K C22 = true)
    (tC22 : PySem.W.typeIn K (.ref C22) = some (.type "type"))
    (aC23 : PySem.W.nsIn K mainGlobals "TooMany" = some (some (.ref C23)))
    (iC23 : PySem.W.isClsIn K C23 = true)
    (tC23 : PySem.W.typeIn K (.ref C23) = some (.type "type"))
    (aC24 : PySem.W.nsIn K mainGlobals "TooFar" = some (some (.ref C24)))
    (iC24 : PySem.W.isClsIn K C24 = true)
    (tC24 : PySem.W.typeIn K (.ref C24) = some (.type "type"))
    (aC25 : PySem.W.nsIn K mainGlobals "TooLong" = some (some (.ref C25)))
    (iC25 : PySem.W.isClsIn K C25 = true)
    (tC25 : PySem.W.typeIn K (.ref C25) = some (.type "type"))
    (aC26 : PySem.W.nsIn K mainGlobals "Clash" = some (some (.ref C26)))
    (iC26 : PySem.W.isClsIn K C26 = true)
    (tC26 : PySem.W.typeIn K (.ref C26) = some (.type "type"))
    (aC27 : PySem.W.nsIn K mainGlobals "TooSoon" = some (some (.ref C27)))
    (iC27 : PySem.W.isClsIn K C27 = true)
    (tC27 : PySem.W.typeIn K (.ref C27) = some (.type "type"))
    (aGp : PySem.W.nsIn K mainGlobals "GapError" = some (some (.ref Gp)))
    (iGp : PySem.W.isClsIn K Gp = true)
    (tGp : PySem.W.typeIn K (.ref Gp) = some (.type "type"))
    (bGp : PySem.W.subIn K (.ref Gp) (.type "BaseException") = some true)
    (er_x0 : PySem.W.excIn K C0 [.type "ValueError", .type "Exception", .type "BaseException", .type "object"] "ValueError.__new__" = true)
    (er_k0 : PySem.W.keepIn K (.ref C0) = true)
    (er_b0 : PySem.W.subIn K (.ref C0) (.type "BaseException") = some true)
    (er_v0 : PySem.W.subIn K (.ref C0) (.type "ValueError") = some true)
    (er_g0 : PySem.W.subIn K (.ref C0) (.ref Gp) = some true)
    (er_s0 : PySem.W.subIn K (.ref C0) (.ref C0) = some true)
    (er_n0_1 : PySem.W.subIn K (.ref C0) (.ref C1) = some false)
    (er_n0_2 : PySem.W.subIn K (.ref C0) (.ref C2) = some false)
    (er_n0_3 : PySem.W.subIn K (.ref C0) (.ref C3) = some false)
    (er_n0_4 : PySem.W.subIn K (.ref C0) (.ref C4) = some false)
    (er_n0_5 : PySem.W.subIn K (.ref C0) (.ref C5) = some false)
    (er_n0_6 : PySem.W.subIn K (.ref C0) (.ref C6) = some false)
    (er_n0_7 : PySem.W.subIn K (.ref C0) (.ref C7) = some false)
    (er_n0_8 : PySem.W.subIn K (.ref C0) (.ref C8) = some false)
    (er_n0_9 : PySem.W.subIn K (.ref C0) (.ref C9) = some false)
    (er_n0_10 : PySem.W.subIn K (.ref C0) (.ref C10) = some false)
    (er_n0_11 : PySem.W.subIn K (.ref C0) (.ref C11) = some false)
    (er_n0_12 : PySem.W.subIn K (.ref C0) (.ref C12) = some false)
    (er_n0_13 : PySem.W.subIn K (.ref C0) (.ref C13) = some false)
    (er_n0_14 : PySem.W.subIn K (.ref C0) (.ref C14) = some false)
    (er_n0_15 : PySem.W.subIn K (.ref C0) (.ref C15) = some false)
    (er_n0_16 : PySem.W.subIn K (.ref C0) (.ref C16) = some false)
    (er_n0_17 : PySem.W.subIn K (.ref C0) (.ref C17) = some false)
    (er_n0_18 : PySem.W.subIn K (.ref C0) (.ref C18) = some false)
    (er_n0_19 : PySem.W.subIn K (.ref C0) (.ref C19) = some false)
    (er_n0_20 : PySem.W.subIn K (.ref C0) (.ref C20) = some false)
    (er_n0_21 : PySem.W.subIn K (.ref C0) (.ref C21) = some false)
    (er_n0_22 : PySem.W.subIn K (.ref C0) (.ref C22) = some false)
    (er_n0_23 : PySem.W.subIn K (.ref C0) (.ref C23) = some false)
    (er_n0_24 : PySem.W.subIn K (.ref C0) (.ref C24) = some false)
    (er_n0_25 : PySem.W.subIn K (.ref C0) (.ref C25) = some false)
    (er_n0_26 : PySem.W.subIn K (.ref C0) (.ref C26) = some false)
    (er_n0_27 : PySem.W.subIn K (.ref C0) (.ref C27) = some false)
    (er_hg0 : PySem.W.findIn K (.ref C0) "__getattribute__" = some (some (.builtin "BaseException.__getattribute__")))
    (er_hk0 : PySem.W.findIn K (.ref C0) "__getattr__" = some none)
    (er_hd0 : PySem.W.hasDictIn K C0 = true)
    (er_ha0 : PySem.W.findIn K (.ref C0) "__class__" = some (some (.builtin "object.__class__")))
    (er_hm0 : PySem.W.mroIn K C0 (.type "object") = some true)
    (er_x1 : PySem.W.excIn K C1 [.type "ValueError", .type "Exception", .type "BaseException", .type "object"] "ValueError.__new__" = true)
    (er_k1 : PySem.W.keepIn K (.ref C1) = true)
    (er_b1 : PySem.W.subIn K (.ref C1) (.type "BaseException") = some true)
    (er_v1 : PySem.W.subIn K (.ref C1) (.type "ValueError") = some true)
    (er_g1 : PySem.W.subIn K (.ref C1) (.ref Gp) = some true)
    (er_s1 : PySem.W.subIn K (.ref C1) (.ref C1) = some true)
    (er_n1_0 : PySem.W.subIn K (.ref C1) (.ref C0) = some false)
    (er_n1_2 : PySem.W.subIn K (.ref C1) (.ref C2) = some false)
    (er_n1_3 : PySem.W.subIn K (.ref C1) (.ref C3) = some false)
    (er_n1_4 : PySem.W.subIn K (.ref C1) (.ref C4) = some false)
    (er_n1_5 : PySem.W.subIn K (.ref C1) (.ref C5) = some false)
    (er_n1_6 : PySem.W.subIn K (.ref C1) (.ref C6) = some false)
    (er_n1_7 : PySem.W.subIn K (.ref C1) (.ref C7) = some false)
    (er_n1_8 : PySem.W.subIn K (.ref C1) (.ref C8) = some false)
    (er_n1_9 : PySem.W.subIn K (.ref C1) (.ref C9) = some false)
    (er_n1_10 : PySem.W.subIn K (.ref C1) (.ref C10) = some false)
    (er_n1_11 : PySem.W.subIn K (.ref C1) (.ref C11) = some false)
    (er_n1_12 : PySem.W.subIn K (.ref C1) (.ref C12) = some false)
    (er_n1_13 : PySem.W.subIn K (.ref C1) (.ref C13) = some false)
    (er_n1_14 : PySem.W.subIn K (.ref C1) (.ref C14) = some false)
    (er_n1_15 : PySem.W.subIn K (.ref C1) (.ref C15) = some false)
    (er_n1_16 : PySem.W.subIn K (.ref C1) (.ref C16) = some false)
    (er_n1_17 : PySem.W.subIn K (.ref C1) (.ref C17) = some false)
    (er_n1_18 : PySem.W.subIn K (.ref C1) (.ref C18) = some false)
    (er_n1_19 : PySem.W.subIn K (.ref C1) (.ref C19) = some false)
    (er_n1_20 : PySem.W.subIn K (.ref C1) (.ref C20) = some false)
    (er_n1_21 : PySem.W.subIn K (.ref C1) (.ref C21) = some false)
    (er_n1_22 : PySem.W.subIn K (.ref C1) (.ref C22) = some false)
    (er_n1_23 : PySem.W.subIn K (.ref C1) (.ref C23) = some false)
    (er_n1_24 : PySem.W.subIn K (.ref C1) (.ref C24) = some false)
    (er_n1_25 : PySem.W.subIn K (.ref C1) (.ref C25) = some false)
    (er_n1_26 : PySem.W.subIn K (.ref C1) (.ref C26) = some false)
    (er_n1_27 : PySem.W.subIn K (.ref C1) (.ref C27) = some false)
    (er_hg1 : PySem.W.findIn K (.ref C1) "__getattribute__" = some (some (.builtin "BaseException.__getattribute__")))
    (er_hk1 : PySem.W.findIn K (.ref C1) "__getattr__" = some none)
    (er_hd1 : PySem.W.hasDictIn K C1 = true)
    (er_ha1 : PySem.W.findIn K (.ref C1) "__class__" = some (some (.builtin "object.__class__")))
    (er_hm1 : PySem.W.mroIn K C1 (.type "object") = some true)
    (er_x2 : PySem.W.excIn K C2 [.type "ValueError", .type "Exception", .type "BaseException", .type "object"] "ValueError.__new__" = true)
    (er_k2 : PySem.W.keepIn K (.ref C2) = true)
    (er_b2 : PySem.W.subIn K (.ref C2) (.type "BaseException") = some true)
    (er_v2 : PySem.W.subIn K (.ref C2) (.type "ValueError") = some true)
    (er_g2 : PySem.W.subIn K (.ref C2) (.ref Gp) = some true)
    (er_s2 : PySem.W.subIn K (.ref C2) (.ref C2) = some true)
    (er_n2_0 : PySem.W.subIn K (.ref C2) (.ref C0) = some false)
    (er_n2_1 : PySem.W.subIn K (.ref C2) (.ref C1) = some false)
    (er_n2_3 : PySem.W.subIn K (.ref C2) (.ref C3) = some false)
    (er_n2_4 : PySem.W.subIn K (.ref C2) (.ref C4) = some false)
    (er_n2_5 : PySem.W.subIn K (.ref C2) (.ref C5) = some false)
    (er_n2_6 : PySem.W.subIn K (.ref C2) (.ref C6) = some false)
    (er_n2_7 : PySem.W.subIn K (.ref C2) (.ref C7) = some false)
    (er_n2_8 : PySem.W.subIn K (.ref C2) (.ref C8) = some false)
    (er_n2_9 : PySem.W.subIn K (.ref C2) (.ref C9) = some false)
    (er_n2_10 : PySem.W.subIn K (.ref C2) (.ref C10) = some false)
    (er_n2_11 : PySem.W.subIn K (.ref C2) (.ref C11) = some false)
    (er_n2_12 : PySem.W.subIn K (.ref C2) (.ref C12) = some false)
    (er_n2_13 : PySem.W.subIn K (.ref C2) (.ref C13) = some false)
    (er_n2_14 : PySem.W.subIn K (.ref C2) (.ref C14) = some false)
    (er_n2_15 : PySem.W.subIn K (.ref C2) (.ref C15) = some false)
    (er_n2_16 : PySem.W.subIn K (.ref C2) (.ref C16) = some false)
    (er_n2_17 : PySem.W.subIn K (.ref C2) (.ref C17) = some false)
    (er_n2_18 : PySem.W.subIn K (.ref C2) (.ref C18) = some false)
    (er_n2_19 : PySem.W.subIn K (.ref C2) (.ref C19) = some false)
    (er_n2_20 : PySem.W.subIn K (.ref C2) (.ref C20) = some false)
    (er_n2_21 : PySem.W.subIn K (.ref C2) (.ref C21) = some false)
    (er_n2_22 : PySem.W.subIn K (.ref C2) (.ref C22) = some false)
    (er_n2_23 : PySem.W.subIn K (.ref C2) (.ref C23) = some false)
    (er_n2_24 : PySem.W.subIn K (.ref C2) (.ref C24) = some false)
    (er_n2_25 : PySem.W.subIn K (.ref C2) (.ref C25) = some false)
    (er_n2_26 : PySem.W.subIn K (.ref C2) (.ref C26) = some false)
    (er_n2_27 : PySem.W.subIn K (.ref C2) (.ref C27) = some false)
    (er_hg2 : PySem.W.findIn K (.ref C2) "__getattribute__" = some (some (.builtin "BaseException.__getattribute__")))
    (er_hk2 : PySem.W.findIn K (.ref C2) "__getattr__" = some none)
    (er_hd2 : PySem.W.hasDictIn K C2 = true)
    (er_ha2 : PySem.W.findIn K (.ref C2) "__class__" = some (some (.builtin "object.__class__")))
    (er_hm2 : PySem.W.mroIn K C2 (.type "object") = some true)
    (er_x3 : PySem.W.excIn K C3 [.type "ValueError", .type "Exception", .type "BaseException", .type "object"] "ValueError.__new__" = true)
    (er_k3 : PySem.W.keepIn K (.ref C3) = true)
    (er_b3 : PySem.W.subIn K (.ref C3) (.type "BaseException") = some true)
    (er_v3 : PySem.W.subIn K (.ref C3) (.type "ValueError") = some true)
    (er_g3 : PySem.W.subIn K (.ref C3) (.ref Gp) = some true)
    (er_s3 : PySem.W.subIn K (.ref C3) (.ref C3) = some true)
    (er_n3_0 : PySem.W.subIn K (.ref C3) (.ref C0) = some false)
    (er_n3_1 : PySem.W.subIn K (.ref C3) (.ref C1) = some false)
    (er_n3_2 : PySem.W.subIn K (.ref C3) (.ref C2) = some false)
    (er_n3_4 : PySem.W.subIn K (.ref C3) (.ref C4) = some false)
    (er_n3_5 : PySem.W.subIn K (.ref C3) (.ref C5) = some false)
    (er_n3_6 : PySem.W.subIn K (.ref C3) (.ref C6) = some false)
    (er_n3_7 : PySem.W.subIn K (.ref C3) (.ref C7) = some false)
    (er_n3_8 : PySem.W.subIn K (.ref C3) (.ref C8) = some false)
    (er_n3_9 : PySem.W.subIn K (.ref C3) (.ref C9) = some false)
    (er_n3_10 : PySem.W.subIn K (.ref C3) (.ref C10) = some false)
    (er_n3_11 : PySem.W.subIn K (.ref C3) (.ref C11) = some false)
    (er_n3_12 : PySem.W.subIn K (.ref C3) (.ref C12) = some false)
    (er_n3_13 : PySem.W.subIn K (.ref C3) (.ref C13) = some false)
    (er_n3_14 : PySem.W.subIn K (.ref C3) (.ref C14) = some false)
    (er_n3_15 : PySem.W.subIn K (.ref C3) (.ref C15) = some false)
    (er_n3_16 : PySem.W.subIn K (.ref C3) (.ref C16) = some false)
    (er_n3_17 : PySem.W.subIn K (.ref C3) (.ref C17) = some false)
    (er_n3_18 : PySem.W.subIn K (.ref C3) (.ref C18) = some false)
    (er_n3_19 : PySem.W.subIn K (.ref C3) (.ref C19) = some false)
    (er_n3_20 : PySem.W.subIn K (.ref C3) (.ref C20) = some false)
    (er_n3_21 : PySem.W.subIn K (.ref C3) (.ref C21) = some false)
    (er_n3_22 : PySem.W.subIn K (.ref C3) (.ref C22) = some false)
    (er_n3_23 : PySem.W.subIn K (.ref C3) (.ref C23) = some false)
    (er_n3_24 : PySem.W.subIn K (.ref C3) (.ref C24) = some false)
    (er_n3_25 : PySem.W.subIn K (.ref C3) (.ref C25) = some false)
    (er_n3_26 : PySem.W.subIn K (.ref C3) (.ref C26) = some false)
    (er_n3_27 : PySem.W.subIn K (.ref C3) (.ref C27) = some false)
    (er_hg3 : PySem.W.findIn K (.ref C3) "__getattribute__" = some (some (.builtin "BaseException.__getattribute__")))
    (er_hk3 : PySem.W.findIn K (.ref C3) "__getattr__" = some none)
    (er_hd3 : PySem.W.hasDictIn K C3 = true)
    (er_ha3 : PySem.W.findIn K (.ref C3) "__class__" = some (some (.builtin "object.__class__")))
    (er_hm3 : PySem.W.mroIn K C3 (.type "object") = some true)
    (er_k23 : PySem.W.keepIn K (.ref C23) = true)
    (er_b23 : PySem.W.subIn K (.ref C23) (.type "BaseException") = some true)
    (er_v23 : PySem.W.subIn K (.ref C23) (.type "ValueError") = some true)
    (er_g23 : PySem.W.subIn K (.ref C23) (.ref Gp) = some true)
    (er_s23 : PySem.W.subIn K (.ref C23) (.ref C23) = some true)
    (er_n23_0 : PySem.W.subIn K (.ref C23) (.ref C0) = some false)
    (er_n23_1 : PySem.W.subIn K (.ref C23) (.ref C1) = some false)
    (er_n23_2 : PySem.W.subIn K (.ref C23) (.ref C2) = some false)
    (er_n23_3 : PySem.W.subIn K (.ref C23) (.ref C3) = some false)
    (er_n23_4 : PySem.W.subIn K (.ref C23) (.ref C4) = some false)
    (er_n23_5 : PySem.W.subIn K (.ref C23) (.ref C5) = some false)
    (er_n23_6 : PySem.W.subIn K (.ref C23) (.ref C6) = some false)
    (er_n23_7 : PySem.W.subIn K (.ref C23) (.ref C7) = some false)
    (er_n23_8 : PySem.W.subIn K (.ref C23) (.ref C8) = some false)
    (er_n23_9 : PySem.W.subIn K (.ref C23) (.ref C9) = some false)
    (er_n23_10 : PySem.W.subIn K (.ref C23) (.ref C10) = some false)
    (er_n23_11 : PySem.W.subIn K (.ref C23) (.ref C11) = some false)
    (er_n23_12 : PySem.W.subIn K (.ref C23) (.ref C12) = some false)
    (er_n23_13 : PySem.W.subIn K (.ref C23) (.ref C13) = some false)
    (er_n23_14 : PySem.W.subIn K (.ref C23) (.ref C14) = some false)
    (er_n23_15 : PySem.W.subIn K (.ref C23) (.ref C15) = some false)
    (er_n23_16 : PySem.W.subIn K (.ref C23) (.ref C16) = some false)
    (er_n23_17 : PySem.W.subIn K (.ref C23) (.ref C17) = some false)
    (er_n23_18 : PySem.W.subIn K (.ref C23) (.ref C18) = some false)
    (er_n23_19 : PySem.W.subIn K (.ref C23) (.ref C19) = some false)
    (er_n23_20 : PySem.W.subIn K (.ref C23) (.ref C20) = some false)
    (er_n23_21 : PySem.W.subIn K (.ref C23) (.ref C21) = some false)
    (er_n23_22 : PySem.W.subIn K (.ref C23) (.ref C22) = some false)
    (er_n23_24 : PySem.W.subIn K (.ref C23) (.ref C24) = some false)
    (er_n23_25 : PySem.W.subIn K (.ref C23) (.ref C25) = some false)
    (er_n23_26 : PySem.W.subIn K (.ref C23) (.ref C26) = some false)
    (er_n23_27 : PySem.W.subIn K (.ref C23) (.ref C27) = some false)
    (er_hg23 : PySem.W.findIn K (.ref C23) "__getattribute__" = some (some (.builtin "BaseException.__getattribute__")))
    (er_hk23 : PySem.W.findIn K (.ref C23) "__getattr__" = some none)
    (er_hd23 : PySem.W.hasDictIn K C23 = true)
    (er_ha23 : PySem.W.findIn K (.ref C23) "__class__" = some (some (.builtin "object.__class__")))
    (er_hm23 : PySem.W.mroIn K C23 (.type "object") = some true)
    (hnX : PySem.W.specialIn K (.builtin "object.__class__") "__get__" = some (some (.builtin "getset_descriptor.__get__")))
    (htX : PySem.W.takesIn K (.builtin "object.__class__") = some true)
    (eL0 : cdd23 = .ref cL0)
    (lL0 : K.lookup cL0 = some ⟨ocL0, odL0, .fields vsL0, slL0⟩)
    (pL0 : (vsL0[11]? : Option Value) = some (.ref PL0))
    (tL0 : PySem.W.tabIn K "_law_kinds_refused" = some (cL0, PL0))
    (oL0 : K.lookup PL0 = none)
    (rL0 : ∃ d, (recsOf q).find? (fun e => e.name == ("_law_kinds_refused" : Str)) = some d)
    (eL1 : cdd24 = .ref cL1)
    (lL1 : K.lookup cL1 = some ⟨ocL1, odL1, .fields vsL1, slL1⟩)
    (pL1 : (vsL1[11]? : Option Value) = some (.ref PL1))
    (tL1 : PySem.W.tabIn K "_law_thing_right" = some (cL1, PL1))
    (oL1 : K.lookup PL1 = none)
    (rL1 : ∃ d, (recsOf q).find? (fun e => e.name == ("_law_thing_right" : Str)) = some d)
    (eL2 : cdd25 = .ref cL2)
    (lL2 : K.lookup cL2 = some ⟨ocL2, odL2, .fields vsL2, slL2⟩)
    (pL2 : (vsL2[11]? : Option Value) = some (.ref PL2))
    (tL2 : PySem.W.tabIn K "law" = some (cL2, PL2))
    (oL2 : K.lookup PL2 = none)
    (rL2 : ∃ d, (recsOf q).find? (fun e => e.name == ("law" : Str)) = some d)
    (lO : K.lookup C23 = some (excClassObj nmO qO C23 NO bsO bmO true snO subO abO colO ddO k0O k1O k2O k3O k5O "ValueError.__new__"))
    (rO : PySem.HandSPX.refsVE bmO = true)
    (saO : PySem.W.findIn K (.ref C23) "__setattr__" = some (some (.builtin "object.__setattr__")))
    (xa : PySem.W.findIn K (.ref C23) "amount" = some none)
    (xl : PySem.W.findIn K (.ref C23) "limit" = some none)
    (iI : PySem.W.findIn K (.ref C23) "__init__" = some (some (.ref fTI)))
    (lTI : K.lookup fTI = some ⟨ocTI, odTI, .func (PySem.W.fnOf "__init__" "TooMany.__init__" (defArgs s_TooMany_init) (defBody s_TooMany_init) (defScope s_TooMany_init) .none kVTI dcTI pmTI anTI cdTI ctTI), slTI⟩)
    (cTI : PySem.W.codeIn K cdTI "TooMany.__init__" = true)
    (kTI : PySem.W.keepIn K (.ref fTI) = true)
    (tI : PySem.W.typeIn K (.ref fTI) = some (.type "function"))
    (dL01 : PL0 ≠ PL1)
    (dL02 : PL0 ≠ PL2)
    (dL12 : PL1 ≠ PL2) :
    ∃ (cs : List (Addr × Addr)) (fd : FuncData), (∀ p ∈ cs, ∃ y, LamDef q K y p.1 p.2) ∧ (∀ (s : Shared) (v : Value), BindsTo s fd ⟨[v], []⟩ [("_law_script", v)]) ∧ ∀ base : Heap, K.In base → base.Ns mainGlobals mg → (∀ p ∈ cs, LamX.TabB base mg p.1 p.2) → FnG l.prog w K mg base 22 fa fd ["_law_script"] (spT cs K) := by
  have e := hfa.symm.trans (PySem.W.mg_of X G ad25)
  cases e
  have y_isinstance := PySem.W.mg_none_of X G z_isinstance
  have y_int := PySem.W.mg_none_of X G z_int
  have y_bool := PySem.W.mg_none_of X G z_bool
  have y_tuple := PySem.W.mg_none_of X G z_tuple
  have y_len := PySem.W.mg_none_of X G z_len
  have y_all := PySem.W.mg_none_of X G z_all
  have y_any := PySem.W.mg_none_of X G z_any
  have y_zip := PySem.W.mg_none_of X G z_zip
  have y_range := PySem.W.mg_none_of X G z_range
  have y_max := PySem.W.mg_none_of X G z_max
  have y_str := PySem.W.mg_none_of X G z_str
  have y_list := PySem.W.mg_none_of X G z_list
  have y_repr := PySem.W.mg_none_of X G z_repr
  have y_ValueError := PySem.W.mg_none_of X G z_ValueError
  have Fd0 := fun_mk (st := s_is_int) ld0 cd0 kd0
  have bd0 := Fd0.binds (ps := ["thing"]) fun _ _ _ _ _ _ us hl => match us, hl with | [_], _ => rfl
  have vd0 := PySem.W.mg_of X G ad0
  have Fd1 := fun_mk (st := s_is_between) ld1 cd1 kd1
  have bd1 := Fd1.binds (ps := ["thing", "least", "most"]) fun _ _ _ _ _ _ us hl => match us, hl with | [_, _, _], _ => rfl
  have vd1 := PySem.W.mg_of X G ad1
  have Fd2 := fun_mk (st := s_is_work) ld2 cd2 kd2
  have bd2 := Fd2.binds (ps := ["thing"]) fun _ _ _ _ _ _ us hl => match us, hl with | [_], _ => rfl
  have vd2 := PySem.W.mg_of X G ad2
  have Fd3 := fun_mk (st := s_bars) ld3 cd3 kd3
  have bd3 := Fd3.binds (ps := ["one", "other"]) fun _ _ _ _ _ _ us hl => match us, hl with | [_, _], _ => rfl
  have vd3 := PySem.W.mg_of X G ad3
  have Fd4 := fun_mk (st := s_require_work) ld4 cd4 kd4
  have bd4 := Fd4.binds (ps := ["thing"]) fun _ _ _ _ _ _ us hl => match us, hl with | [_], _ => rfl
  have vd4 := PySem.W.mg_of X G ad4
  have Fd5 := fun_mk (st := s_clashes_behind) ld5 cd5 kd5
  have bd5 := Fd5.binds (ps := ["one", "other", "distance"]) fun _ _ _ _ _ _ us hl => match us, hl with | [_, _, _], _ => rfl
  have vd5 := PySem.W.mg_of X G ad5
  have Fd6 := fun_mk (st := s_is_kind) ld6 cd6 kd6
  have bd6 := Fd6.binds (ps := ["line", "thing"]) fun _ _ _ _ _ _ us hl => match us, hl with | [_, _], _ => rfl
  have vd6 := PySem.W.mg_of X G ad6
  have Fd7 := fun_mk (st := s_require_kind) ld7 cd7 kd7
  have bd7 := Fd7.binds (ps := ["line", "thing"]) fun _ _ _ _ _ _ us hl => match us, hl with | [_, _], _ => rfl
  have vd7 := PySem.W.mg_of X G ad7
  have Fd8 := fun_mk (st := s_bars_of_all) ld8 cd8 kd8
  have bd8 := Fd8.binds (ps := ["works"]) fun _ _ _ _ _ _ us hl => match us, hl with | [_], _ => rfl
  have vd8 := PySem.W.mg_of X G ad8
  have Fd9 := fun_mk (st := s_l_cell) ld9 cd9 kd9
  have bd9 := Fd9.binds (ps := ["_law_script", "_law_k"]) fun _ _ _ _ _ _ us hl => match us, hl with | [_, _], _ => rfl
  have vd9 := PySem.W.mg_of X G ad9
  have Fd10 := fun_mk (st := s_l_pen) ld10 cd10 kd10
  have bd10 := Fd10.binds (ps := ["_law_cell_here"]) fun _ _ _ _ _ _ us hl => match us, hl with | [_], _ => rfl
  have vd10 := PySem.W.mg_of X G ad10
  have Fd11 := fun_mk (st := s_l_draw) ld11 cd11 kd11
  have bd11 := Fd11.binds (ps := ["_law_pen_here", "_law_many"]) fun _ _ _ _ _ _ us hl => match us, hl with | [_, _], _ => rfl
  have vd11 := PySem.W.mg_of X G ad11
  have Fd12 := fun_mk (st := s_l_pick) ld12 cd12 kd12
  have bd12 := Fd12.binds (ps := ["_law_pen_here", "_law_some"]) fun _ _ _ _ _ _ us hl => match us, hl with | [_, _], _ => rfl
  have vd12 := PySem.W.mg_of X G ad12
  have Fd13 := fun_mk (st := s_l_is_whole) ld13 cd13 kd13
  have bd13 := Fd13.binds (ps := ["_law_thing", "_law_low", "_law_high"]) fun _ _ _ _ _ _ us hl => match us, hl with | [_, _, _], _ => rfl
  have vd13 := PySem.W.mg_of X G ad13
  have Fd14 := fun_mk (st := s_l_is_work) ld14 cd14 kd14
  have bd14 := Fd14.binds (ps := ["_law_thing"]) fun _ _ _ _ _ _ us hl => match us, hl with | [_], _ => rfl
  have vd14 := PySem.W.mg_of X G ad14
  have Fd15 := fun_mk (st := s_l_work) ld15 cd15 kd15
  have bd15 := Fd15.binds (ps := ["_law_pen_here", "_law_most", "_law_stations"]) fun _ _ _ _ _ _ us hl => match us, hl with | [_, _, _], _ => rfl
  have vd15 := PySem.W.mg_of X G ad15
  have Fd16 := fun_mk (st := s_l_made) ld16 cd16 kd16
  have bd16 := Fd16.binds (ps := ["_law_works_here"]) fun _ _ _ _ _ _ us hl => match us, hl with | [_], _ => rfl
  have vd16 := PySem.W.mg_of X G ad16
  have Fd17 := fun_mk (st := s_l_works) ld17 cd17 kd17
  have bd17 := Fd17.binds (ps := ["_law_pen_here"]) fun _ _ _ _ _ _ us hl => match us, hl with | [_], _ => rfl
  have vd17 := PySem.W.mg_of X G ad17
  have Fd18 := fun_mk (st := s_l_odds) ld18 cd18 kd18
  have bd18 := Fd18.binds (ps := []) fun _ _ _ _ _ _ us hl => match us, hl with | [], _ => rfl
  have vd18 := PySem.W.mg_of X G ad18
  have Fd19 := fun_mk (st := s_l_great) ld19 cd19 kd19
  have bd19 := Fd19.binds (ps := []) fun _ _ _ _ _ _ us hl => match us, hl with | [], _ => rfl
  have vd19 := PySem.W.mg_of X G ad19
  have Fd20 := fun_mk (st := s_l_bend) ld20 cd20 kd20
  have bd20 := Fd20.binds (ps := ["_law_pen_here", "_law_row"]) fun _ _ _ _ _ _ us hl => match us, hl with | [_, _], _ => rfl
  have vd20 := PySem.W.mg_of X G ad20
  have Fd21 := fun_mk (st := s_l_kind) ld21 cd21 kd21
  have bd21 := Fd21.binds (ps := ["_law_e"]) fun _ _ _ _ _ _ us hl => match us, hl with | [_], _ => rfl
  have vd21 := PySem.W.mg_of X G ad21
  have Fd22 := fun_mk (st := s_l_said) ld22 cd22 kd22
  have bd22 := Fd22.binds (ps := ["_law_call"]) fun _ _ _ _ _ _ us hl => match us, hl with | [_], _ => rfl
  have vd22 := PySem.W.mg_of X G ad22
  have Fd23 := fun_mk (st := s_l_kinds_refused) ld23 cd23 kd23
  have bd23 := Fd23.binds (ps := ["_law_made_here", "_law_bad"]) fun _ _ _ _ _ _ us hl => match us, hl with | [_, _], _ => rfl
  have vd23 := PySem.W.mg_of X G ad23
  have Fd24 := fun_mk (st := s_l_thing_right) ld24 cd24 kd24
  have bd24 := Fd24.binds (ps := ["_law_made_here", "_law_work_here", "_law_thing"]) fun _ _ _ _ _ _ us hl => match us, hl with | [_, _, _], _ => rfl
  have vd24 := PySem.W.mg_of X G ad24
  have Fd25 := fun_mk (st := s_law) ld25 cd25 kd25
  have bd25 := Fd25.binds (ps := ["_law_script"]) fun _ _ _ _ _ _ us hl => match us, hl with | [_], _ => rfl
  have vd25 := PySem.W.mg_of X G ad25
  have Fm0 := fun_mk (st := s_Line_init) lm0 cm0 km0
  have Fm1 := fun_mk (st := s_Line_len) lm1 cm1 km1
  have bm1 := Fm1.binds (ps := ["self"]) fun _ _ _ _ _ _ us hl => match us, hl with | [_], _ => rfl
  have Fm2 := fun_mk (st := s_Line_call) lm2 cm2 km2
  have bm2 := Fm2.binds (ps := ["self", "one", "other"]) fun _ _ _ _ _ _ us hl => match us, hl with | [_, _, _], _ => rfl
  have Fm3 := fun_mk (st := s_Line_add) lm3 cm3 km3
  have bm3 := Fm3.binds (ps := ["self", "other"]) fun _ _ _ _ _ _ us hl => match us, hl with | [_, _], _ => rfl
  have Fm4 := fun_mk (st := s_Line_sub) lm4 cm4 km4
  have bm4 := Fm4.binds (ps := ["self", "other"]) fun _ _ _ _ _ _ us hl => match us, hl with | [_, _], _ => rfl
  have Fm5 := fun_mk (st := s_Line_neg) lm5 cm5 km5
  have bm5 := Fm5.binds (ps := ["self"]) fun _ _ _ _ _ _ us hl => match us, hl with | [_], _ => rfl
  have Fm6 := fun_mk (st := s_Line_eq) lm6 cm6 km6
  have bm6 := Fm6.binds (ps := ["self", "other"]) fun _ _ _ _ _ _ us hl => match us, hl with | [_, _], _ => rfl
  have Fm7 := fun_mk (st := s_Line_getitem) lm7 cm7 km7
  have bm7 := Fm7.binds (ps := ["self", "at"]) fun _ _ _ _ _ _ us hl => match us, hl with | [_, _], _ => rfl
  have Fm8 := fun_mk (st := s_Line_repr) lm8 cm8 km8
  have bm8 := Fm8.binds (ps := ["self"]) fun _ _ _ _ _ _ us hl => match us, hl with | [_], _ => rfl
  have Fp0 := fun_mk (st := s_Line_works) lp0 cp0 kp0
  have bp0 := Fp0.binds (ps := ["self"]) fun _ _ _ _ _ _ us hl => match us, hl with | [_], _ => rfl
  have N_NOWHERE : ∃ t, mg "NOWHERE" = some (.int (-1) t) := ⟨_, PySem.W.mg_of X G u_NOWHERE⟩
  have N_STATIONS : ∃ t, mg "STATIONS" = some (.int (10) t) := ⟨_, PySem.W.mg_of X G u_STATIONS⟩
  have N_MOST_ITEMS : ∃ t, mg "MOST_ITEMS" = some (.int (60) t) := ⟨_, PySem.W.mg_of X G u_MOST_ITEMS⟩
  have N_MOST_WORKS : ∃ t, mg "MOST_WORKS" = some (.int (3) t) := ⟨_, PySem.W.mg_of X G u_MOST_WORKS⟩
  have cl : Cls K C := ⟨pg, hd, po, sa⟩
  have T : LC K mg C := ⟨cl, nW, nB, nR, PySem.W.mg_of X G aC⟩
  have kit : PySem.W.kitOne K (.ref C) (.ref C) = some true := by unfold PySem.W.kitOne; simp
  have I : LI K C := ⟨ha, hn, ht, hm, kit⟩
  have O : Ops K C := ⟨sf, ⟨none, rs, .inl rfl⟩, ⟨_, is1⟩, ⟨_, ir1⟩, nsub, ne, ob⟩
  have Mi : Mk K C fm0 := ⟨mk, am0, im0, kc⟩
  let Cf : Nat → Addr := fun i => [C0, C1, C2, C3, C4, C5, C6, C7, C8, C9, C10, C11, C12, C13, C14, C15, C16, C17, C18, C19, C20, C21, C22, C23, C24, C25, C26, C27].getD i 0
  have kn : ∀ i, i < 28 → mg (kNames.getD i "") = some (.ref (Cf i)) := fun i hi => by
    match i, hi with
    | 0, _ => exact PySem.W.mg_of X G aC0
    | 1, _ => exact PySem.W.mg_of X G aC1
    | 2, _ => exact PySem.W.mg_of X G aC2
    | 3, _ => exact PySem.W.mg_of X G aC3
    | 4, _ => exact PySem.W.mg_of X G aC4
    | 5, _ => exact PySem.W.mg_of X G aC5
    | 6, _ => exact PySem.W.mg_of X G aC6
    | 7, _ => exact PySem.W.mg_of X G aC7
    | 8, _ => exact PySem.W.mg_of X G aC8
    | 9, _ => exact PySem.W.mg_of X G aC9
    | 10, _ => exact PySem.W.mg_of X G aC10
    | 11, _ => exact PySem.W.mg_of X G aC11
    | 12, _ => exact PySem.W.mg_of X G aC12
    | 13, _ => exact PySem.W.mg_of X G aC13
    | 14, _ => exact PySem.W.mg_of X G aC14
    | 15, _ => exact PySem.W.mg_of X G aC15
    | 16, _ => exact PySem.W.mg_of X G aC16
    | 17, _ => exact PySem.W.mg_of X G aC17
    | 18, _ => exact PySem.W.mg_of X G aC18
    | 19, _ => exact PySem.W.mg_of X G aC19
    | 20, _ => exact PySem.W.mg_of X G aC20
    | 21, _ => exact PySem.W.mg_of X G aC21
    | 22, _ => exact PySem.W.mg_of X G aC22
    | 23, _ => exact PySem.W.mg_of X G aC23
    | 24, _ => exact PySem.W.mg_of X G aC24
    | 25, _ => exact PySem.W.mg_of X G aC25
    | 26, _ => exact PySem.W.mg_of X G aC26
    | 27, _ => exact PySem.W.mg_of X G aC27
    | n + 28, z => exact absurd z (by omega)
  have Er0 : Err K mg "NoWork" C0 := ⟨PySem.W.mg_of X G aC0, er_x0, er_k0, er_b0, tC0⟩
  have KO0 : KindOk K Cf C0 0 := ⟨by decide, ⟨er_hg0, er_hk0, er_b0, er_hd0, er_ha0, hnX, htX, er_hm0⟩, iC0, fun i hi => by
    match i, hi with
    | 0, _ => exact kit_self
    | 1, _ => exact kit_no er_s0 iC1 tC1 er_n0_1
    | 2, _ => exact kit_no er_s0 iC2 tC2 er_n0_2
    | 3, _ => exact kit_no er_s0 iC3 tC3 er_n0_3
    | 4, _ => exact kit_no er_s0 iC4 tC4 er_n0_4
    | 5, _ => exact kit_no er_s0 iC5 tC5 er_n0_5
    | 6, _ => exact kit_no er_s0 iC6 tC6 er_n0_6
    | 7, _ => exact kit_no er_s0 iC7 tC7 er_n0_7
    | 8, _ => exact kit_no er_s0 iC8 tC8 er_n0_8
    | 9, _ => exact kit_no er_s0 iC9 tC9 er_n0_9
    | 10, _ => exact kit_no er_s0 iC10 tC10 er_n0_10
    | 11, _ => exact kit_no er_s0 iC11 tC11 er_n0_11
    | 12, _ => exact kit_no er_s0 iC12 tC12 er_n0_12
    | 13, _ => exact kit_no er_s0 iC13 tC13 er_n0_13
    | 14, _ => exact kit_no er_s0 iC14 tC14 er_n0_14
    | 15, _ => exact kit_no er_s0 iC15 tC15 er_n0_15
    | 16, _ => exact kit_no er_s0 iC16 tC16 er_n0_16
    | 17, _ => exact kit_no er_s0 iC17 tC17 er_n0_17
    | 18, _ => exact kit_no er_s0 iC18 tC18 er_n0_18
    | 19, _ => exact kit_no er_s0 iC19 tC19 er_n0_19
    | 20, _ => exact kit_no er_s0 iC20 tC20 er_n0_20
    | 21, _ => exact kit_no er_s0 iC21 tC21 er_n0_21
    | 22, _ => exact kit_no er_s0 iC22 tC22 er_n0_22
    | 23, _ => exact kit_no er_s0 iC23 tC23 er_n0_23
    | 24, _ => exact kit_no er_s0 iC24 tC24 er_n0_24
    | 25, _ => exact kit_no er_s0 iC25 tC25 er_n0_25
    | 26, _ => exact kit_no er_s0 iC26 tC26 er_n0_26
    | 27, _ => exact kit_no er_s0 iC27 tC27 er_n0_27
    | n + 28, z => exact absurd z (by omega), kit_val er_v0⟩
  have ex0 : PySem.W.exmOne K (.ref C0) (.ref Gp) = some true := exm_sub bGp iGp tGp er_g0
  have Er1 : Err K mg "NoLine" C1 := ⟨PySem.W.mg_of X G aC1, er_x1, er_k1, er_b1, tC1⟩
  have KO1 : KindOk K Cf C1 1 := ⟨by decide, ⟨er_hg1, er_hk1, er_b1, er_hd1, er_ha1, hnX, htX, er_hm1⟩, iC1, fun i hi => by
    match i, hi with
    | 0, _ => exact kit_no er_s1 iC0 tC0 er_n1_0
    | 1, _ => exact kit_self
    | 2, _ => exact kit_no er_s1 iC2 tC2 er_n1_2
    | 3, _ => exact kit_no er_s1 iC3 tC3 er_n1_3
    | 4, _ => exact kit_no er_s1 iC4 tC4 er_n1_4
    | 5, _ => exact kit_no er_s1 iC5 tC5 er_n1_5
    | 6, _ => exact kit_no er_s1 iC6 tC6 er_n1_6
    | 7, _ => exact kit_no er_s1 iC7 tC7 er_n1_7
    | 8, _ => exact kit_no er_s1 iC8 tC8 er_n1_8
    | 9, _ => exact kit_no er_s1 iC9 tC9 er_n1_9
    | 10, _ => exact kit_no er_s1 iC10 tC10 er_n1_10
    | 11, _ => exact kit_no er_s1 iC11 tC11 er_n1_11
    | 12, _ => exact kit_no er_s1 iC12 tC12 er_n1_12
    | 13, _ => exact kit_no er_s1 iC13 tC13 er_n1_13
    | 14, _ => exact kit_no er_s1 iC14 tC14 er_n1_14
    | 15, _ => exact kit_no er_s1 iC15 tC15 er_n1_15
    | 16, _ => exact kit_no er_s1 iC16 tC16 er_n1_16
    | 17, _ => exact kit_no er_s1 iC17 tC17 er_n1_17
    | 18, _ => exact kit_no er_s1 iC18 tC18 er_n1_18
    | 19, _ => exact kit_no er_s1 iC19 tC19 er_n1_19
    | 20, _ => exact kit_no er_s1 iC20 tC20 er_n1_20
    | 21, _ => exact kit_no er_s1 iC21 tC21 er_n1_21
    | 22, _ => exact kit_no er_s1 iC22 tC22 er_n1_22
    | 23, _ => exact kit_no er_s1 iC23 tC23 er_n1_23
    | 24, _ => exact kit_no er_s1 iC24 tC24 er_n1_24
    | 25, _ => exact kit_no er_s1 iC25 tC25 er_n1_25
    | 26, _ => exact kit_no er_s1 iC26 tC26 er_n1_26
    | 27, _ => exact kit_no er_s1 iC27 tC27 er_n1_27
    | n + 28, z => exact absurd z (by omega), kit_val er_v1⟩
  have ex1 : PySem.W.exmOne K (.ref C1) (.ref Gp) = some true := exm_sub bGp iGp tGp er_g1
  have Er2 : Err K mg "NoKind" C2 := ⟨PySem.W.mg_of X G aC2, er_x2, er_k2, er_b2, tC2⟩
  have KO2 : KindOk K Cf C2 2 := ⟨by decide, ⟨er_hg2, er_hk2, er_b2, er_hd2, er_ha2, hnX, htX, er_hm2⟩, iC2, fun i hi => by
    match i, hi with
    | 0, _ => exact kit_no er_s2 iC0 tC0 er_n2_0
    | 1, _ => exact kit_no er_s2 iC1 tC1 er_n2_1
    | 2, _ => exact kit_self
    | 3, _ => exact kit_no er_s2 iC3 tC3 er_n2_3
    | 4, _ => exact kit_no er_s2 iC4 tC4 er_n2_4
    | 5, _ => exact kit_no er_s2 iC5 tC5 er_n2_5
    | 6, _ => exact kit_no er_s2 iC6 tC6 er_n2_6
    | 7, _ => exact kit_no er_s2 iC7 tC7 er_n2_7
    | 8, _ => exact kit_no er_s2 iC8 tC8 er_n2_8
    | 9, _ => exact kit_no er_s2 iC9 tC9 er_n2_9
    | 10, _ => exact kit_no er_s2 iC10 tC10 er_n2_10
    | 11, _ => exact kit_no er_s2 iC11 tC11 er_n2_11
    | 12, _ => exact kit_no er_s2 iC12 tC12 er_n2_12
    | 13, _ => exact kit_no er_s2 iC13 tC13 er_n2_13
    | 14, _ => exact kit_no er_s2 iC14 tC14 er_n2_14
    | 15, _ => exact kit_no er_s2 iC15 tC15 er_n2_15
    | 16, _ => exact kit_no er_s2 iC16 tC16 er_n2_16
    | 17, _ => exact kit_no er_s2 iC17 tC17 er_n2_17
    | 18, _ => exact kit_no er_s2 iC18 tC18 er_n2_18
    | 19, _ => exact kit_no er_s2 iC19 tC19 er_n2_19
    | 20, _ => exact kit_no er_s2 iC20 tC20 er_n2_20
    | 21, _ => exact kit_no er_s2 iC21 tC21 er_n2_21
    | 22, _ => exact kit_no er_s2 iC22 tC22 er_n2_22
    | 23, _ => exact kit_no er_s2 iC23 tC23 er_n2_23
    | 24, _ => exact kit_no er_s2 iC24 tC24 er_n2_24
    | 25, _ => exact kit_no er_s2 iC25 tC25 er_n2_25
    | 26, _ => exact kit_no er_s2 iC26 tC26 er_n2_26
    | 27, _ => exact kit_no er_s2 iC27 tC27 er_n2_27
    | n + 28, z => exact absurd z (by omega), kit_val er_v2⟩
  have ex2 : PySem.W.exmOne K (.ref C2) (.ref Gp) = some true := exm_sub bGp iGp tGp er_g2
  have Er3 : Err K mg "OnlyOne" C3 := ⟨PySem.W.mg_of X G aC3, er_x3, er_k3, er_b3, tC3⟩
  have KO3 : KindOk K Cf C3 3 := ⟨by decide, ⟨er_hg3, er_hk3, er_b3, er_hd3, er_ha3, hnX, htX, er_hm3⟩, iC3, fun i hi => by
    match i, hi with
    | 0, _ => exact kit_no er_s3 iC0 tC0 er_n3_0
    | 1, _ => exact kit_no er_s3 iC1 tC1 er_n3_1
    | 2, _ => exact kit_no er_s3 iC2 tC2 er_n3_2
    | 3, _ => exact kit_self
    | 4, _ => exact kit_no er_s3 iC4 tC4 er_n3_4
    | 5, _ => exact kit_no er_s3 iC5 tC5 er_n3_5
    | 6, _ => exact kit_no er_s3 iC6 tC6 er_n3_6
    | 7, _ => exact kit_no er_s3 iC7 tC7 er_n3_7
    | 8, _ => exact kit_no er_s3 iC8 tC8 er_n3_8
    | 9, _ => exact kit_no er_s3 iC9 tC9 er_n3_9
    | 10, _ => exact kit_no er_s3 iC10 tC10 er_n3_10
    | 11, _ => exact kit_no er_s3 iC11 tC11 er_n3_11
    | 12, _ => exact kit_no er_s3 iC12 tC12 er_n3_12
    | 13, _ => exact kit_no er_s3 iC13 tC13 er_n3_13
    | 14, _ => exact kit_no er_s3 iC14 tC14 er_n3_14
    | 15, _ => exact kit_no er_s3 iC15 tC15 er_n3_15
    | 16, _ => exact kit_no er_s3 iC16 tC16 er_n3_16
    | 17, _ => exact kit_no er_s3 iC17 tC17 er_n3_17
    | 18, _ => exact kit_no er_s3 iC18 tC18 er_n3_18
    | 19, _ => exact kit_no er_s3 iC19 tC19 er_n3_19
    | 20, _ => exact kit_no er_s3 iC20 tC20 er_n3_20
    | 21, _ => exact kit_no er_s3 iC21 tC21 er_n3_21
    | 22, _ => exact kit_no er_s3 iC22 tC22 er_n3_22
    | 23, _ => exact kit_no er_s3 iC23 tC23 er_n3_23
    | 24, _ => exact kit_no er_s3 iC24 tC24 er_n3_24
    | 25, _ => exact kit_no er_s3 iC25 tC25 er_n3_25
    | 26, _ => exact kit_no er_s3 iC26 tC26 er_n3_26
    | 27, _ => exact kit_no er_s3 iC27 tC27 er_n3_27
    | n + 28, z => exact absurd z (by omega), kit_val er_v3⟩
  have ex3 : PySem.W.exmOne K (.ref C3) (.ref Gp) = some true := exm_sub bGp iGp tGp er_g3
  have KO23 : KindOk K Cf C23 23 := ⟨by decide, ⟨er_hg23, er_hk23, er_b23, er_hd23, er_ha23, hnX, htX, er_hm23⟩, iC23, fun i hi => by
    match i, hi with
    | 0, _ => exact kit_no er_s23 iC0 tC0 er_n23_0
    | 1, _ => exact kit_no er_s23 iC1 tC1 er_n23_1
    | 2, _ => exact kit_no er_s23 iC2 tC2 er_n23_2
    | 3, _ => exact kit_no er_s23 iC3 tC3 er_n23_3
    | 4, _ => exact kit_no er_s23 iC4 tC4 er_n23_4
    | 5, _ => exact kit_no er_s23 iC5 tC5 er_n23_5
    | 6, _ => exact kit_no er_s23 iC6 tC6 er_n23_6
    | 7, _ => exact kit_no er_s23 iC7 tC7 er_n23_7
    | 8, _ => exact kit_no er_s23 iC8 tC8 er_n23_8
    | 9, _ => exact kit_no er_s23 iC9 tC9 er_n23_9
    | 10, _ => exact kit_no er_s23 iC10 tC10 er_n23_10
    | 11, _ => exact kit_no er_s23 iC11 tC11 er_n23_11
    | 12, _ => exact kit_no er_s23 iC12 tC12 er_n23_12
    | 13, _ => exact kit_no er_s23 iC13 tC13 er_n23_13
    | 14, _ => exact kit_no er_s23 iC14 tC14 er_n23_14
    | 15, _ => exact kit_no er_s23 iC15 tC15 er_n23_15
    | 16, _ => exact kit_no er_s23 iC16 tC16 er_n23_16
    | 17, _ => exact kit_no er_s23 iC17 tC17 er_n23_17
    | 18, _ => exact kit_no er_s23 iC18 tC18 er_n23_18
    | 19, _ => exact kit_no er_s23 iC19 tC19 er_n23_19
    | 20, _ => exact kit_no er_s23 iC20 tC20 er_n23_20
    | 21, _ => exact kit_no er_s23 iC21 tC21 er_n23_21
    | 22, _ => exact kit_no er_s23 iC22 tC22 er_n23_22
    | 23, _ => exact kit_self
    | 24, _ => exact kit_no er_s23 iC24 tC24 er_n23_24
    | 25, _ => exact kit_no er_s23 iC25 tC25 er_n23_25
    | 26, _ => exact kit_no er_s23 iC26 tC26 er_n23_26
    | 27, _ => exact kit_no er_s23 iC27 tC27 er_n23_27
    | n + 28, z => exact absurd z (by omega), kit_val er_v23⟩
  have ex23 : PySem.W.exmOne K (.ref C23) (.ref Gp) = some true := exm_sub bGp iGp tGp er_g23
  have vGp := PySem.W.mg_of X G aGp
  have LD0 : LamDef q K "_law_kinds_refused" cL0 PL0 := ⟨rL0, tL0, oL0⟩
  have LD1 : LamDef q K "_law_thing_right" cL1 PL1 := ⟨rL1, tL1, oL1⟩
  have LD2 : LamDef q K "law" cL2 PL2 := ⟨rL2, tL2, oL2⟩
  have mem : ∀ p ∈ [(cL0, PL0), (cL1, PL1), (cL2, PL2)], ∃ y, LamDef q K y p.1 p.2 := fun p hp => by
    rcases List.mem_cons.mp hp with rfl | hp
    · exact ⟨_, LD0⟩
    rcases List.mem_cons.mp hp with rfl | hp
    · exact ⟨_, LD1⟩
    rcases List.mem_cons.mp hp with rfl | hp
    · exact ⟨_, LD2⟩
    exact nomatch hp
  refine ⟨[(cL0, PL0), (cL1, PL1), (cL2, PL2)], PySem.W.fnOf "law" "law" (defArgs s_law) (defBody s_law) (defScope s_law) .none kVd25 dcd25 pmd25 and25 cdd25 ctd25, mem, fun s v => .of_eq rfl, fun base _ _ TBs => ?_⟩
  have TB0 : LamX.TabB base mg cL0 PL0 := TBs (cL0, PL0) (by simp)
  have TB1 : LamX.TabB base mg cL1 PL1 := TBs (cL1, PL1) (by simp)
  have TB2 : LamX.TabB base mg cL2 PL2 := TBs (cL2, PL2) (by simp)
  have Gd0 := ok_is_int (P := l.prog) (w := w) (mg := mg) (base := base) (k := 0) Fd0 y_isinstance y_int y_bool
  have Gd1 := ok_is_between (P := l.prog) (w := w) (mg := mg) (base := base) (k := 1) Fd1 (Gd0.mono (by decide)) kd0 bd0 vd0
  have N : Nums mg := ⟨N_NOWHERE, N_STATIONS, N_MOST_ITEMS⟩
  have Gd2 := ok_is_work (P := l.prog) (w := w) (mg := mg) (base := base) (k := 2) Fd2 N (Gd1.mono (by decide)) kd1 bd1 vd1 y_isinstance y_tuple y_len y_all
  have Gd4 := ok_require_work (P := l.prog) (w := w) (mg := mg) (base := base) (k := 3) Fd4 (Gd2.mono (by decide)) kd2 bd2 vd2
  have Gd5 := ok_clashes_behind (P := l.prog) (w := w) (mg := mg) (base := base) (k := 3) Fd5 N y_any y_zip
  have Gd3 := ok_bars (P := l.prog) (w := w) (mg := mg) (base := base) (k := 4) Fd3 Gd4 kd4 bd4 vd4 Gd5 kd5 bd5 vd5 y_tuple y_range y_len
  have Gd8 := ok_bars_of_all (P := l.prog) (w := w) (mg := mg) (base := base) (k := 5) Fd8 y_tuple Gd3 kd3 bd3 vd3
  have Gi := ok_init (P := l.prog) (w := w) (mg := mg) (base := base) (k := 6) Fm0 T N_MOST_WORKS (Gd2.mono (by decide)) kd2 bd2 vd2 Gd8 kd8 bd8 vd8 y_all y_len y_max
  have Glen := ok_len (P := l.prog) (w := w) (mg := mg) (base := base) (k := 1) Fm1 T y_len
  have Gd6 := ok_is_kind (P := l.prog) (w := w) (mg := mg) (base := base) (k := 2) Fd6 T y_len Gd1 kd1 bd1 vd1 Glen bm1 am1 im1
  have Gd7 := ok_require_kind (P := l.prog) (w := w) (mg := mg) (base := base) (k := 4) Fd7 Gd6 kd6 bd6 vd6
  have Gcall := ok_call (P := l.prog) (w := w) (mg := mg) (base := base) (k := 5) Fm2 T Gd7 kd7 bd7 vd7
  have Gadd := ok_add (P := l.prog) (w := w) (mg := mg) (base := base) (k := 7) Fm3 T I Mi Gi y_isinstance
  have Gsub := ok_sub (P := l.prog) (w := w) (mg := mg) (base := base) (k := 7) Fm4 T Mi Gi (Gd7.mono (by decide)) kd7 bd7 vd7 y_len
  have Gneg := ok_neg (P := l.prog) (w := w) (mg := mg) (base := base) (k := 7) Fm5 T Mi Gi
  have Geq := ok_eq (P := l.prog) (w := w) (mg := mg) (base := base) (k := 0) Fm6 T I y_isinstance
  have Gw := fn_getter (CX := CX0) (P := l.prog) (w := w) (mg := mg) (base := base) (k := 0) lp0 cp0 sc_Line_works rfl rfl cl nW
  have M : Meths l.prog w K mg base 10 C := ⟨T, I, O, ⟨_, _, Glen.mono (by decide), bm1, am1, im1⟩, ⟨_, _, ⟨Gcall.mono (by decide), bm2, am2, im2⟩, fi⟩, ⟨_, _, Gadd.mono (by decide), bm3, am3, im3⟩, ⟨_, _, Gsub.mono (by decide), bm4, am4, im4⟩, ⟨_, _, Gneg.mono (by decide), bm5, am5, im5⟩, ⟨_, _, Geq.mono (by decide), bm6, am6, im6⟩, ⟨_, _, _, ⟨ap0, gp0, tp0, _, rp0⟩, Gw.mono (by decide), bp0⟩, ⟨_, Mi, Gi.mono (by decide)⟩⟩
  have Gitem := ok_item (P := l.prog) (w := w) (mg := mg) (base := base) (k := 5) Fm7 T Gd7 kd7 bd7 vd7
  have Grepr := ok_repr (P := l.prog) (w := w) (mg := mg) (base := base) (k := 0) Fm8 T y_len
  have M2 : Meths2 l.prog w K mg base 10 C := ⟨M, ⟨_, _, ⟨Gitem.mono (by decide), bm7, am7, im7⟩, fg⟩, ⟨_, _, Grepr.mono (by decide), bm8, am8, im8⟩⟩
  have NI : NoInst K C := noInst_by (kit_tno iCl tCl ns_NoneType) (kit_tno iCl tCl ns_bool) (kit_tno iCl tCl ns_int) (kit_tno iCl tCl ns_str) (kit_tno iCl tCl ns_list) (kit_tno iCl tCl ns_tuple) (kit_tno iCl tCl ns_dict)
  have LKI : LineKit K C := ⟨fun hL => isLine T.cl I hL, fun u hu => by
    simp only [List.mem_cons, List.not_mem_nil, or_false] at hu
    rcases hu with rfl | rfl | rfl | rfl | rfl
    · exact kit_ty_no (by decide +kernel) nt_tuple
    · exact kit_ty_no (by decide +kernel) nt_int
    · exact kit_ty_no (by decide +kernel) nt_bool
    · exact kit_ty_no (by decide +kernel) nt_str
    · exact kit_ty_no (by decide +kernel) nt_list⟩
  have TO : OexC K C23 := ⟨⟨_, _, _, _, _, _, _, _, _, _, _, _, _, _, _, lO, rO⟩, saO, er_b23, tC23, er_k23⟩
  have XF : XfC K C23 := ⟨er_hg23, er_hk23, er_b23, er_hd23⟩
  have FTI := fun_mk (st := s_TooMany_init) lTI cTI kTI
  have bTI := FTI.binds (ps := ["self", "amount", "limit"]) fun _ _ _ _ _ _ us hl => match us, hl with | [_, _, _], _ => rfl
  have vT := PySem.W.mg_of X G aC23
  have GTI := ok_many_init (P := l.prog) (w := w) (mg := mg) (base := base) (k := 0) FTI TO xa xl
  have GLi := ok_is_intL (P := l.prog) (w := w) (mg := mg) (base := base) (k := 0) LKI Fd0 y_isinstance y_int y_bool
  have GLb := ok_is_betweenL (P := l.prog) (w := w) (mg := mg) (base := base) (k := 1) Fd1 (GLi.mono (by decide)) kd0 bd0 vd0
  have GLw := ok_is_workL (P := l.prog) (w := w) (mg := mg) (base := base) (k := 2) LKI Fd2 N (GLb.mono (by decide)) kd1 bd1 vd1 y_isinstance y_tuple y_len y_all
  have GLk := ok_is_kindL (P := l.prog) (w := w) (mg := mg) (base := base) (k := 10) Fd6 M2 (GLb.mono (by decide)) kd1 bd1 vd1 y_len
  have GLrk := ok_require_kindL (P := l.prog) (w := w) (mg := mg) (base := base) (k := 13) Fd7 Er2 (GLk.mono (by decide)) kd6 bd6 vd6
  have BI := ok_itemB (P := l.prog) (w := w) (mg := mg) (base := base) (k := 14) Fm7 (GLrk.mono (by decide)) kd7 bd7 vd7
  have BC := ok_callB (P := l.prog) (w := w) (mg := mg) (base := base) (k := 14) Fm2 (GLrk.mono (by decide)) kd7 bd7 vd7
  have BS := ok_subB (P := l.prog) (w := w) (mg := mg) (base := base) (k := 14) Fm4 T Er3 (GLrk.mono (by decide)) kd7 bd7 vd7 y_len
  have BN := ok_initB (P := l.prog) (w := w) (mg := mg) (base := base) (k := 12) Fm0 N_MOST_WORKS Er0 TO iI tI (GTI.mono (by decide)) bTI vT (GLw.mono (by decide)) kd2 bd2 vd2 y_all y_len
  have BA := ok_addB (P := l.prog) (w := w) (mg := mg) (base := base) (k := 14) Fm3 T I NI Mi Er1 BN y_isinstance
  have BE := ok_eqP (P := l.prog) (w := w) (mg := mg) (base := base) (k := 0) Fm6 T I NI y_isinstance
  have OS : OpsX K C "sub" := ⟨sf, ⟨none, rs, .inl rfl⟩, fun T hT => by
    simp only [tyNs, List.mem_cons, List.not_mem_nil, or_false] at hT
    rcases hT with rfl | rfl | rfl | rfl | rfl | rfl | rfl
    · exact ⟨⟨_, op_NoneType_sub⟩, ⟨_, op_NoneType_rsub⟩, ns_NoneType⟩
    · exact ⟨⟨_, op_bool_sub⟩, ⟨_, op_bool_rsub⟩, ns_bool⟩
    · exact ⟨⟨_, op_int_sub⟩, ⟨_, op_int_rsub⟩, ns_int⟩
    · exact ⟨⟨_, op_str_sub⟩, ⟨_, op_str_rsub⟩, ns_str⟩
    · exact ⟨⟨_, op_list_sub⟩, ⟨_, op_list_rsub⟩, ns_list⟩
    · exact ⟨⟨_, op_tuple_sub⟩, ⟨_, op_tuple_rsub⟩, ns_tuple⟩
    · exact ⟨⟨_, op_dict_sub⟩, ⟨_, op_dict_rsub⟩, ns_dict⟩⟩
  have OA : OpsX K C "add" := ⟨sf, ⟨_, raC, .inr ⟨_, rfl⟩⟩, fun T hT => by
    simp only [tyNs, List.mem_cons, List.not_mem_nil, or_false] at hT
    rcases hT with rfl | rfl | rfl | rfl | rfl | rfl | rfl
    · exact ⟨⟨_, op_NoneType_add⟩, ⟨_, op_NoneType_radd⟩, ns_NoneType⟩
    · exact ⟨⟨_, op_bool_add⟩, ⟨_, op_bool_radd⟩, ns_bool⟩
    · exact ⟨⟨_, op_int_add⟩, ⟨_, op_int_radd⟩, ns_int⟩
    · exact ⟨⟨_, op_str_add⟩, ⟨_, op_str_radd⟩, ns_str⟩
    · exact ⟨⟨_, op_list_add⟩, ⟨_, op_list_radd⟩, ns_list⟩
    · exact ⟨⟨_, op_tuple_add⟩, ⟨_, op_tuple_radd⟩, ns_tuple⟩
    · exact ⟨⟨_, op_dict_add⟩, ⟨_, op_dict_radd⟩, ns_dict⟩⟩
  have BB : Bad l.prog w K mg base 16 C C2 C3 C1 C0 C23 := ⟨⟨_, _, BI.mono (by decide), bm7, am7, im7, fg⟩, ⟨_, _, BC.mono (by decide), bm2, ⟨am2, im2, fi⟩⟩, ⟨_, _, BS.mono (by decide), bm4, am4, im4⟩, ⟨_, _, BA.mono (by decide), bm3, am3, im3⟩, ⟨_, _, BE.mono (by decide), bm6, am6, im6⟩, OS, OA, ⟨_, Mi, BN.mono (by decide)⟩, ne, ob⟩
  have Gd9 := ok_l_cell (P := l.prog) (w := w) (mg := mg) (base := base) (k := 0) Fd9 y_len
  have Gd10 := ok_l_pen (P := l.prog) (w := w) (mg := mg) (base := base) (k := 0) Fd10 y_max
  have Gd11 := ok_l_draw (P := l.prog) (w := w) (mg := mg) (base := base) (k := 0) Fd11
  have Gd12 := ok_l_pickA (P := l.prog) (w := w) (mg := mg) (base := base) (k := 1) Fd12 (Gd11.mono (by decide)) kd11 bd11 vd11 y_len
  have Gd13 := ok_is_whole (P := l.prog) (w := w) (mg := mg) (base := base) (k := 0) LKI Fd13 y_isinstance y_int y_bool
  have Gd14 := ok_l_is_work (P := l.prog) (w := w) (mg := mg) (base := base) (k := 1) LKI Fd14 (Gd13.mono (by decide)) kd13 bd13 vd13 y_isinstance y_tuple y_len
  have Gd15 := ok_l_workP (P := l.prog) (w := w) (mg := mg) (base := base) (k := 2) Fd15 (Gd11.mono (by decide)) kd11 bd11 vd11 y_range y_tuple
  have Gd16 := ok_made (P := l.prog) (w := w) (mg := mg) (base := base) (k := 7) Fd16 T Mi Gi y_len
  have Gd17 := ok_l_works (P := l.prog) (w := w) (mg := mg) (base := base) (k := 3) Fd17 (Gd11.mono (by decide)) kd11 bd11 vd11 (Gd15.mono (by decide)) kd15 bd15 vd15 y_range y_tuple
  have Gd18 := ok_l_odds (P := l.prog) (w := w) (mg := mg) (base := base) (k := 0) Fd18
  have Gd19 := ok_l_great (P := l.prog) (w := w) (mg := mg) (base := base) (k := 0) Fd19 y_range
  have Gd20 := ok_l_bend (P := l.prog) (w := w) (mg := mg) (base := base) (k := 3) Fd20 (Gd11.mono (by decide)) kd11 bd11 vd11 (Gd12.mono (by decide)) kd12 bd12 vd12 y_len y_list y_tuple y_str
  have Gd21 := ok_l_kind (P := l.prog) (w := w) (mg := mg) (base := base) (k := 0) Fd21 kn y_isinstance y_ValueError
  have SO0 : SaidOk K Cf Gp C0 0 "work" := ⟨KO0, rfl, by decide, ex0⟩
  have SO1 : SaidOk K Cf Gp C1 1 "line" := ⟨KO1, rfl, by decide, ex1⟩
  have SO2 : SaidOk K Cf Gp C2 2 "kind" := ⟨KO2, rfl, by decide, ex2⟩
  have SO3 : SaidOk K Cf Gp C3 3 "one" := ⟨KO3, rfl, by decide, ex3⟩
  have SO23 : SaidOk K Cf Gp C23 23 "many" := ⟨KO23, rfl, by decide, ex23⟩
  have SK : SaidKit l.prog w K mg base 17 16 Cf C C2 C3 C1 C0 C23 Gp fd22 fd21 _ _ := ⟨Fd22, kd22, bd22, vd22, (Gd21.mono (by decide)), kd21, bd21, vd21, XF, xa, xl, vGp, y_repr, SO2, SO3, SO1, SO0, SO23, BB, by decide⟩
  let TT : List (Addr × Str) := [(PL0, lamQ "_law_kinds_refused"), (PL1, lamQ "_law_thing_right"), (PL2, lamQ "law")]
  have hm0 : (PL0, lamQ "_law_kinds_refused") ∈ TT := by simp [TT]
  have hu0 : ∀ p ∈ TT, p.1 = PL0 → p.2 = lamQ "_law_kinds_refused" := fun p hp e => by
    rcases List.mem_cons.mp hp with rfl | hp
    · rfl
    rcases List.mem_cons.mp hp with rfl | hp
    · exact absurd e (Ne.symm dL01)
    rcases List.mem_cons.mp hp with rfl | hp
    · exact absurd e (Ne.symm dL02)
    exact nomatch hp
  have hm1 : (PL1, lamQ "_law_thing_right") ∈ TT := by simp [TT]
  have hu1 : ∀ p ∈ TT, p.1 = PL1 → p.2 = lamQ "_law_thing_right" := fun p hp e => by
    rcases List.mem_cons.mp hp with rfl | hp
    · exact absurd e dL01
    rcases List.mem_cons.mp hp with rfl | hp
    · rfl
    rcases List.mem_cons.mp hp with rfl | hp
    · exact absurd e (Ne.symm dL12)
    exact nomatch hp
  have hm2 : (PL2, lamQ "law") ∈ TT := by simp [TT]
  have hu2 : ∀ p ∈ TT, p.1 = PL2 → p.2 = lamQ "law" := fun p hp e => by
    rcases List.mem_cons.mp hp with rfl | hp
    · exact absurd e dL02
    rcases List.mem_cons.mp hp with rfl | hp
    · exact absurd e dL12
    rcases List.mem_cons.mp hp with rfl | hp
    · rfl
    exact nomatch hp
  have Gd23 := ok_kinds_refused (P := l.prog) (w := w) (mg := mg) (base := base) (T := TT) Fd23 (tab_code ad23 ld23 tL0) TB0 hm0 hu0 SK 
  have Gd24 := ok_thing_right (P := l.prog) (w := w) (mg := mg) (base := base) (T := TT) Fd24 (tab_code ad24 ld24 tL1) TB1 hm1 hu1 SK M2 (by decide) (PySem.W.mg_of X G aC) y_len (j := 17) (Gd14.mono (by decide)) kd14 bd14 vd14 (Gd13.mono (by decide)) kd13 bd13 vd13 (by decide) Gd23 kd23 bd23 vd23
  exact ok_law (P := l.prog) (w := w) (mg := mg) (base := base) (T := TT) Fd25 (tab_code ad25 ld25 tL2) TB2 hm2 hu2 SK M2 (by decide) (j := 20) (by decide) (PySem.W.mg_of X G aC) (Gd9.mono (by decide)) kd9 bd9 vd9 (Gd10.mono (by decide)) kd10 bd10 vd10 (Gd17.mono (by decide)) kd17 bd17 vd17 (Gd15.mono (by decide)) kd15 bd15 vd15 (Gd16.mono (by decide)) kd16 bd16 vd16 (Gd18.mono (by decide)) kd18 bd18 vd18 (Gd19.mono (by decide)) kd19 bd19 vd19 (Gd20.mono (by decide)) kd20 bd20 vd20 Gd24 kd24 bd24 vd24 y_range y_len
end Sg
set_option Elab.async false
set_option linter.all false
open PySem PySem.W PyProof.Rows
set_option maxRecDepth 100000 in
set_option maxHeartbeats 0 in
theorem PySem.Challenge.cw_startgaps_k06_lines_refuse_holds : PySem.Challenge.rw_startgaps_k06_lines_refuse.Holds := by
  w_on; o_law; k_head; (case hw => w_witness2)
  k_fill
  refine Sg.walk_lawT (l := PySem.Challenge.rw_startgaps_k06_lines_refuse) (k := 22) (x := "_law_script") (sp := Sg.spT) rfl rfl ⟨rfl, by decide, by decide⟩ (fun w h Y => PySem.W.km_in_of Y) ?F Sg.spT_end
  case F =>
    intro w mg fa h KX G hmg
    refine' Sg.all_mk KX G hmg ?ad0 ?ld0 ?cd0 ?kd0 ?ad1 ?ld1 ?cd1 ?kd1 ?ad2 ?ld2 ?cd2 ?kd2 ?ad3 ?ld3 ?cd3 ?kd3 ?ad4 ?ld4 ?cd4 ?kd4 ?ad5 ?ld5 ?cd5 ?kd5 ?ad6 ?ld6 ?cd6 ?kd6 ?ad7 ?ld7 ?cd7 ?kd7 ?ad8 ?ld8 ?cd8 ?kd8 ?ad9 ?ld9 ?cd9 ?kd9 ?ad10 ?ld10 ?cd10 ?kd10 ?ad11 ?ld11 ?cd11 ?kd11 ?ad12 ?ld12 ?cd12 ?kd12 ?ad13 ?ld13 ?cd13 ?kd13 ?ad14 ?ld14 ?cd14 ?kd14 ?ad15 ?ld15 ?cd15 ?kd15 ?ad16 ?ld16 ?cd16 ?kd16 ?ad17 ?ld17 ?cd17 ?kd17 ?ad18 ?ld18 ?cd18 ?kd18 ?ad19 ?ld19 ?cd19 ?kd19 ?ad20 ?ld20 ?cd20 ?kd20 ?ad21 ?ld21 ?cd21 ?kd21 ?ad22 ?ld22 ?cd22 ?kd22 ?ad23 ?ld23 ?cd23 ?kd23 ?ad24 ?ld24 ?cd24 ?kd24 ?ad25 ?ld25 ?cd25 ?kd25 ?aC ?am0 ?im0 ?lm0 ?cm0 ?km0 ?am1 ?im1 ?lm1 ?cm1 ?km1 ?am2 ?im2 ?lm2 ?cm2 ?km2 ?am3 ?im3 ?lm3 ?cm3 ?km3 ?am4 ?im4 ?lm4 ?cm4 ?km4 ?am5 ?im5 ?lm5 ?cm5 ?km5 ?am6 ?im6 ?lm6 ?cm6 ?km6 ?am7 ?im7 ?lm7 ?cm7 ?km7 ?am8 ?im8 ?lm8 ?cm8 ?km8 ?ap0 ?gp0 ?tp0 ?rp0 ?lp0 ?cp0 ?kp0 ?pg ?hd ?po ?sa ?mk ?kc ?nW ?nB ?nR ?ha ?hn ?ht ?hm ?sf ?rs ?is1 ?ir1 ?nsub ?ne ?ob ?fi ?fg ?iCl ?tCl ?ns_NoneType ?ns_bool ?ns_int ?ns_str ?ns_list ?ns_tuple ?ns_dict ?nt_tuple ?nt_int ?nt_bool ?nt_str ?nt_list ?op_NoneType_add ?op_NoneType_radd ?op_NoneType_sub ?op_NoneType_rsub ?op_bool_add ?op_bool_radd ?op_bool_sub ?op_bool_rsub ?op_int_add ?op_int_radd ?op_int_sub ?op_int_rsub ?op_str_add ?op_str_radd ?op_str_sub ?op_str_rsub ?op_list_add ?op_list_radd ?op_list_sub ?op_list_rsub ?op_tuple_add ?op_tuple_radd ?op_tuple_sub ?op_tuple_rsub ?op_dict_add ?op_dict_radd ?op_dict_sub ?op_dict_rsub ?raC ?z_isinstance ?z_int ?z_bool ?z_tuple ?z_len ?z_all ?z_any ?z_zip ?z_range ?z_max ?z_str ?z_list ?z_repr ?z_ValueError ?u_NOWHERE ?u_STATIONS ?u_MOST_ITEMS ?u_MOST_WORKS ?aC0 ?iC0 ?tC0 ?aC1 ?iC1 ?tC1 ?aC2 ?iC2 ?tC2 ?aC3 ?iC3 ?tC3 ?aC4 ?iC4 ?tC4 ?aC5 ?iC5 ?tC5 ?aC6 ?iC6 ?tC6 ?aC7 ?iC7 ?tC7 ?aC8 ?iC8 ?tC8 ?aC9 ?iC9 ?tC9 ?aC10 ?iC10 ?tC10 ?aC11 ?iC11 ?tC11 ?aC12 ?iC12 ?tC12 ?aC13 ?iC13 ?tC13 ?aC14 ?iC14 ?tC14 ?aC15 ?iC15 ?tC15 ?aC16 ?iC16 ?tC16 ?aC17 ?iC17 ?tC17 ?aC18 ?iC18 ?tC18 ?aC19 ?iC19 ?tC19 ?aC20 ?iC20 ?tC20 ?aC21 ?iC21 ?tC21 ?aC22 ?iC22 ?tC22 ?aC23 ?iC23 ?tC23 ?aC24 ?iC24 ?tC24 ?aC25 ?iC25 ?tC25 ?aC26 ?iC26 ?tC26 ?aC27 ?iC27 ?tC27 ?aGp ?iGp ?tGp ?bGp ?er_x0 ?er_k0 ?er_b0 ?er_v0 ?er_g0 ?er_s0 ?er_n0_1 ?er_n0_2 ?er_n0_3 ?er_n0_4 ?er_n0_5 ?er_n0_6 ?er_n0_7 ?er_n0_8 ?er_n0_9 ?er_n0_10 ?er_n0_11 ?er_n0_12 ?er_n0_13 ?er_n0_14 ?er_n0_15 ?er_n0_16 ?er_n0_17 ?er_n0_18 ?er_n0_19 ?er_n0_20 ?er_n0_21 ?er_n0_22 ?er_n0_23 ?er_n0_24 ?er_n0_25 ?er_n0_26 ?er_n0_27 ?er_hg0 ?er_hk0 ?er_hd0 ?er_ha0 ?er_hm0 ?er_x1 ?er_k1 ?er_b1 ?er_v1 ?er_g1 ?er_s1 ?er_n1_0 ?er_n1_2 ?er_n1_3 ?er_n1_4 ?er_n1_5 ?er_n1_6 ?er_n1_7 ?er_n1_8 ?er_n1_9 ?er_n1_10 ?er_n1_11 ?er_n1_12 ?er_n1_13 ?er_n1_14 ?er_n1_15 ?er_n1_16 ?er_n1_17 ?er_n1_18 ?er_n1_19 ?er_n1_20 ?er_n1_21 ?er_n1_22 ?er_n1_23 ?er_n1_24 ?er_n1_25 ?er_n1_26 ?er_n1_27 ?er_hg1 ?er_hk1 ?er_hd1 ?er_ha1 ?er_hm1 ?er_x2 ?er_k2 ?er_b2 ?er_v2 ?er_g2 ?er_s2 ?er_n2_0 ?er_n2_1 ?er_n2_3 ?er_n2_4 ?er_n2_5 ?er_n2_6 ?er_n2_7 ?er_n2_8 ?er_n2_9 ?er_n2_10 ?er_n2_11 ?er_n2_12 ?er_n2_13 ?er_n2_14 ?er_n2_15 ?er_n2_16 ?er_n2_17 ?er_n2_18 ?er_n2_19 ?er_n2_20 ?er_n2_21 ?er_n2_22 ?er_n2_23 ?er_n2_24 ?er_n2_25 ?er_n2_26 ?er_n2_27 ?er_hg2 ?er_hk2 ?er_hd2 ?er_ha2 ?er_hm2 ?er_x3 ?er_k3 ?er_b3 ?er_v3 ?er_g3 ?er_s3 ?er_n3_0 ?er_n3_1 ?er_n3_2 ?er_n3_4 ?er_n3_5 ?er_n3_6 ?er_n3_7 ?er_n3_8 ?er_n3_9 ?er_n3_10 ?er_n3_11 ?er_n3_12 ?er_n3_13 ?er_n3_14 ?er_n3_15 ?er_n3_16 ?er_n3_17 ?er_n3_18 ?er_n3_19 ?er_n3_20 ?er_n3_21 ?er_n3_22 ?er_n3_23 ?er_n3_24 ?er_n3_25 ?er_n3_26 ?er_n3_27 ?er_hg3 ?er_hk3 ?er_hd3 ?er_ha3 ?er_hm3 ?er_k23 ?er_b23 ?er_v23 ?er_g23 ?er_s23 ?er_n23_0 ?er_n23_1 ?er_n23_2 ?er_n23_3 ?er_n23_4 ?er_n23_5 ?er_n23_6 ?er_n23_7 ?er_n23_8 ?er_n23_9 ?er_n23_10 ?er_n23_11 ?er_n23_12 ?er_n23_13 ?er_n23_14 ?er_n23_15 ?er_n23_16 ?er_n23_17 ?er_n23_18 ?er_n23_19 ?er_n23_20 ?er_n23_21 ?er_n23_22 ?er_n23_24 ?er_n23_25 ?er_n23_26 ?er_n23_27 ?er_hg23 ?er_hk23 ?er_hd23 ?er_ha23 ?er_hm23 ?hnX ?htX ?eL0 ?lL0 ?pL0 ?tL0 ?oL0 ?rL0 ?eL1 ?lL1 ?pL1 ?tL1 ?oL1 ?rL1 ?eL2 ?lL2 ?pL2 ?tL2 ?oL2 ?rL2 ?lO ?rO ?saO ?xa ?xl ?iI ?lTI ?cTI ?kTI ?tI ?dL01 ?dL02 ?dL12
    (case ad0 => k_is)
    (case ld0 => k_is)
    (case cd0 => k_is)
    (case kd0 => k_is)
    (case ad1 => k_is)
    (case ld1 => k_is)
    (case cd1 => k_is)
    (case kd1 => k_is)
    (case ad2 => k_is)
    (case ld2 => k_is)
    (case cd2 => k_is)
    (case kd2 => k_is)
    (case ad3 => k_is)
    (case ld3 => k_is)
    (case cd3 => k_is)
    (case kd3 => k_is)
    (case ad4 => k_is)
    (case ld4 => k_is)
    (case cd4 => k_is)
    (case kd4 => k_is)
    (case ad5 => k_is)
    (case ld5 => k_is)
    (case cd5 => k_is)
    (case kd5 => k_is)
    (case ad6 => k_is)
    (case ld6 => k_is)
    (case cd6 => k_is)
    (case kd6 => k_is)
    (case ad7 => k_is)
    (case ld7 => k_is)
    (case cd7 => k_is)
    (case kd7 => k_is)
    (case ad8 => k_is)
    (case ld8 => k_is)
    (case cd8 => k_is)
    (case kd8 => k_is)
    (case ad9 => k_is)
    (case ld9 => k_is)
    (case cd9 => k_is)
    (case kd9 => k_is)
    (case ad10 => k_is)
    (case ld10 => k_is)
    (case cd10 => k_is)
    (case kd10 => k_is)
    (case ad11 => k_is)
    (case ld11 => k_is)
    (case cd11 => k_is)
    (case kd11 => k_is)
    (case ad12 => k_is)
    (case ld12 => k_is)
    (case cd12 => k_is)
    (case kd12 => k_is)
    (case ad13 => k_is)
    (case ld13 => k_is)
    (case cd13 => k_is)
    (case kd13 => k_is)
    (case ad14 => k_is)
    (case ld14 => k_is)
    (case cd14 => k_is)
    (case kd14 => k_is)
    (case ad15 => k_is)
    (case ld15 => k_is)
    (case cd15 => k_is)
    (case kd15 => k_is)
    (case ad16 => k_is)
    (case ld16 => k_is)
    (case cd16 => k_is)
    (case kd16 => k_is)
    (case ad17 => k_is)
    (case ld17 => k_is)
    (case cd17 => k_is)
    (case kd17 => k_is)
    (case ad18 => k_is)
    (case ld18 => k_is)
    (case cd18 => k_is)
    (case kd18 => k_is)
    (case ad19 => k_is)
    (case ld19 => k_is)
    (case cd19 => k_is)
    (case kd19 => k_is)
    (case ad20 => k_is)
    (case ld20 => k_is)
    (case cd20 => k_is)
    (case kd20 => k_is)
    (case ad21 => k_is)
    (case ld21 => k_is)
    (case cd21 => k_is)
    (case kd21 => k_is)
    (case ad22 => k_is)
    (case ld22 => k_is)
    (case cd22 => k_is)
    (case kd22 => k_is)
    (case ad23 => k_is)
    (case ld23 => k_is)
    (case cd23 => k_is)
    (case kd23 => k_is)
    (case ad24 => k_is)
    (case ld24 => k_is)
    (case cd24 => k_is)
    (case kd24 => k_is)
    (case ad25 => k_is)
    (case ld25 => k_is)
    (case cd25 => k_is)
    (case kd25 => k_is)
    (case aC => k_is)
    (case am0 => k_is)
    (case im0 => k_is)
    (case lm0 => k_is)
    (case cm0 => k_is)
    (case km0 => k_is)
    (case am1 => k_is)
    (case im1 => k_is)
    (case lm1 => k_is)
    (case cm1 => k_is)
    (case km1 => k_is)
    (case am2 => k_is)
    (case im2 => k_is)
    (case lm2 => k_is)
    (case cm2 => k_is)
    (case km2 => k_is)
    (case am3 => k_is)
    (case im3 => k_is)
    (case lm3 => k_is)
    (case cm3 => k_is)
    (case km3 => k_is)
    (case am4 => k_is)
    (case im4 => k_is)
    (case lm4 => k_is)
    (case cm4 => k_is)
    (case km4 => k_is)
    (case am5 => k_is)
    (case im5 => k_is)
    (case lm5 => k_is)
    (case cm5 => k_is)
    (case km5 => k_is)
    (case am6 => k_is)
    (case im6 => k_is)
    (case lm6 => k_is)
    (case cm6 => k_is)
    (case km6 => k_is)
    (case am7 => k_is)
    (case im7 => k_is)
    (case lm7 => k_is)
    (case cm7 => k_is)
    (case km7 => k_is)
    (case am8 => k_is)
    (case im8 => k_is)
    (case lm8 => k_is)
    (case cm8 => k_is)
    (case km8 => k_is)
    (case ap0 => k_is)
    (case gp0 => k_is)
    (case tp0 => k_is)
    (case rp0 => k_is)
    (case lp0 => k_is)
    (case cp0 => k_is)
    (case kp0 => k_is)
    (case pg => k_is)
    (case hd => k_is)
    (case po => k_is)
    (case sa => k_is)
    (case mk => k_is)
    (case kc => k_is)
    (case nW => k_is)
    (case nB => k_is)
    (case nR => k_is)
    (case ha => k_is)
    (case hn => k_is)
    (case ht => k_is)
    (case hm => k_is)
    (case sf => k_is)
    (case rs => k_is)
    (case is1 => k_is)
    (case ir1 => k_is)
    (case nsub => k_is)
    (case ne => k_is)
    (case ob => k_is)
    (case fi => k_is)
    (case fg => k_is)
    (case iCl => k_is)
    (case tCl => k_is)
    (case ns_NoneType => k_is)
    (case ns_bool => k_is)
    (case ns_int => k_is)
    (case ns_str => k_is)
    (case ns_list => k_is)
    (case ns_tuple => k_is)
    (case ns_dict => k_is)
    (case nt_tuple => k_is)
    (case nt_int => k_is)
    (case nt_bool => k_is)
    (case nt_str => k_is)
    (case nt_list => k_is)
    (case op_NoneType_add => k_is)
    (case op_NoneType_radd => k_is)
    (case op_NoneType_sub => k_is)
    (case op_NoneType_rsub => k_is)
    (case op_bool_add => k_is)
    (case op_bool_radd => k_is)
    (case op_bool_sub => k_is)
    (case op_bool_rsub => k_is)
    (case op_int_add => k_is)
    (case op_int_radd => k_is)
    (case op_int_sub => k_is)
    (case op_int_rsub => k_is)
    (case op_str_add => k_is)
    (case op_str_radd => k_is)
    (case op_str_sub => k_is)
    (case op_str_rsub => k_is)
    (case op_list_add => k_is)
    (case op_list_radd => k_is)
    (case op_list_sub => k_is)
    (case op_list_rsub => k_is)
    (case op_tuple_add => k_is)
    (case op_tuple_radd => k_is)
    (case op_tuple_sub => k_is)
    (case op_tuple_rsub => k_is)
    (case op_dict_add => k_is)
    (case op_dict_radd => k_is)
    (case op_dict_sub => k_is)
    (case op_dict_rsub => k_is)
    (case raC => k_is)
    (case z_isinstance => k_is)
    (case z_int => k_is)
    (case z_bool => k_is)
    (case z_tuple => k_is)
    (case z_len => k_is)
    (case z_all => k_is)
    (case z_any => k_is)
    (case z_zip => k_is)
    (case z_range => k_is)
    (case z_max => k_is)
    (case z_str => k_is)
    (case z_list => k_is)
    (case z_repr => k_is)
    (case z_ValueError => k_is)
    (case u_NOWHERE => k_is)
    (case u_STATIONS => k_is)
    (case u_MOST_ITEMS => k_is)
    (case u_MOST_WORKS => k_is)
    (case aC0 => k_is)
    (case iC0 => k_is)
    (case tC0 => k_is)
    (case aC1 => k_is)
    (case iC1 => k_is)
    (case tC1 => k_is)
    (case aC2 => k_is)
    (case iC2 => k_is)
    (case tC2 => k_is)
    (case aC3 => k_is)
    (case iC3 => k_is)
    (case tC3 => k_is)
    (case aC4 => k_is)
    (case iC4 => k_is)
    (case tC4 => k_is)
    (case aC5 => k_is)
    (case iC5 => k_is)
    (case tC5 => k_is)
    (case aC6 => k_is)
    (case iC6 => k_is)
    (case tC6 => k_is)
    (case aC7 => k_is)
    (case iC7 => k_is)
    (case tC7 => k_is)
    (case aC8 => k_is)
    (case iC8 => k_is)
    (case tC8 => k_is)
    (case aC9 => k_is)
    (case iC9 => k_is)
    (case tC9 => k_is)
    (case aC10 => k_is)
    (case iC10 => k_is)
    (case tC10 => k_is)
    (case aC11 => k_is)
    (case iC11 => k_is)
    (case tC11 => k_is)
    (case aC12 => k_is)
    (case iC12 => k_is)
    (case tC12 => k_is)
    (case aC13 => k_is)
    (case iC13 => k_is)
    (case tC13 => k_is)
    (case aC14 => k_is)
    (case iC14 => k_is)
    (case tC14 => k_is)
    (case aC15 => k_is)
    (case iC15 => k_is)
    (case tC15 => k_is)
    (case aC16 => k_is)
    (case iC16 => k_is)
    (case tC16 => k_is)
    (case aC17 => k_is)
    (case iC17 => k_is)
    (case tC17 => k_is)
    (case aC18 => k_is)
    (case iC18 => k_is)
    (case tC18 => k_is)
    (case aC19 => k_is)
    (case iC19 => k_is)
    (case tC19 => k_is)
    (case aC20 => k_is)
    (case iC20 => k_is)
    (case tC20 => k_is)
    (case aC21 => k_is)
    (case iC21 => k_is)
    (case tC21 => k_is)
    (case aC22 => k_is)
    (case iC22 => k_is)
    (case tC22 => k_is)
    (case aC23 => k_is)
    (case iC23 => k_is)
    (case tC23 => k_is)
    (case aC24 => k_is)
    (case iC24 => k_is)
    (case tC24 => k_is)
    (case aC25 => k_is)
    (case iC25 => k_is)
    (case tC25 => k_is)
    (case aC26 => k_is)
    (case iC26 => k_is)
    (case tC26 => k_is)
    (case aC27 => k_is)
    (case iC27 => k_is)
    (case tC27 => k_is)
    (case aGp => k_is)
    (case iGp => k_is)
    (case tGp => k_is)
    (case bGp => k_is)
    (case er_x0 => k_exc)
    (case er_k0 => k_is)
    (case er_b0 => k_is)
    (case er_v0 => k_is)
    (case er_g0 => k_is)
    (case er_s0 => first | rfl | k_is)
    (case er_n0_1 => k_is)
    (case er_n0_2 => k_is)
    (case er_n0_3 => k_is)
    (case er_n0_4 => k_is)
    (case er_n0_5 => k_is)
    (case er_n0_6 => k_is)
    (case er_n0_7 => k_is)
    (case er_n0_8 => k_is)
    (case er_n0_9 => k_is)
    (case er_n0_10 => k_is)
    (case er_n0_11 => k_is)
    (case er_n0_12 => k_is)
    (case er_n0_13 => k_is)
    (case er_n0_14 => k_is)
    (case er_n0_15 => k_is)
    (case er_n0_16 => k_is)
    (case er_n0_17 => k_is)
    (case er_n0_18 => k_is)
    (case er_n0_19 => k_is)
    (case er_n0_20 => k_is)
    (case er_n0_21 => k_is)
    (case er_n0_22 => k_is)
    (case er_n0_23 => k_is)
    (case er_n0_24 => k_is)
    (case er_n0_25 => k_is)
    (case er_n0_26 => k_is)
    (case er_n0_27 => k_is)
    (case er_hg0 => k_is)
    (case er_hk0 => k_is)
    (case er_hd0 => k_is)
    (case er_ha0 => k_is)
    (case er_hm0 => k_is)
    (case er_x1 => k_exc)
    (case er_k1 => k_is)
    (case er_b1 => k_is)
    (case er_v1 => k_is)
    (case er_g1 => k_is)
    (case er_s1 => first | rfl | k_is)
    (case er_n1_0 => k_is)
    (case er_n1_2 => k_is)
    (case er_n1_3 => k_is)
    (case er_n1_4 => k_is)
    (case er_n1_5 => k_is)
    (case er_n1_6 => k_is)
    (case er_n1_7 => k_is)
    (case er_n1_8 => k_is)
    (case er_n1_9 => k_is)
    (case er_n1_10 => k_is)
    (case er_n1_11 => k_is)
    (case er_n1_12 => k_is)
    (case er_n1_13 => k_is)
    (case er_n1_14 => k_is)
    (case er_n1_15 => k_is)
    (case er_n1_16 => k_is)
    (case er_n1_17 => k_is)
    (case er_n1_18 => k_is)
    (case er_n1_19 => k_is)
    (case er_n1_20 => k_is)
    (case er_n1_21 => k_is)
    (case er_n1_22 => k_is)
    (case er_n1_23 => k_is)
    (case er_n1_24 => k_is)
    (case er_n1_25 => k_is)
    (case er_n1_26 => k_is)
    (case er_n1_27 => k_is)
    (case er_hg1 => k_is)
    (case er_hk1 => k_is)
    (case er_hd1 => k_is)
    (case er_ha1 => k_is)
    (case er_hm1 => k_is)
    (case er_x2 => k_exc)
    (case er_k2 => k_is)
    (case er_b2 => k_is)
    (case er_v2 => k_is)
    (case er_g2 => k_is)
    (case er_s2 => first | rfl | k_is)
    (case er_n2_0 => k_is)
    (case er_n2_1 => k_is)
    (case er_n2_3 => k_is)
    (case er_n2_4 => k_is)
    (case er_n2_5 => k_is)
    (case er_n2_6 => k_is)
    (case er_n2_7 => k_is)
    (case er_n2_8 => k_is)
    (case er_n2_9 => k_is)
    (case er_n2_10 => k_is)
    (case er_n2_11 => k_is)
    (case er_n2_12 => k_is)
    (case er_n2_13 => k_is)
    (case er_n2_14 => k_is)
    (case er_n2_15 => k_is)
    (case er_n2_16 => k_is)
    (case er_n2_17 => k_is)
    (case er_n2_18 => k_is)
    (case er_n2_19 => k_is)
    (case er_n2_20 => k_is)
    (case er_n2_21 => k_is)
    (case er_n2_22 => k_is)
    (case er_n2_23 => k_is)
    (case er_n2_24 => k_is)
    (case er_n2_25 => k_is)
    (case er_n2_26 => k_is)
    (case er_n2_27 => k_is)
    (case er_hg2 => k_is)
    (case er_hk2 => k_is)
    (case er_hd2 => k_is)
    (case er_ha2 => k_is)
    (case er_hm2 => k_is)
    (case er_x3 => k_exc)
    (case er_k3 => k_is)
    (case er_b3 => k_is)
    (case er_v3 => k_is)
    (case er_g3 => k_is)
    (case er_s3 => first | rfl | k_is)
    (case er_n3_0 => k_is)
    (case er_n3_1 => k_is)
    (case er_n3_2 => k_is)
    (case er_n3_4 => k_is)
    (case er_n3_5 => k_is)
    (case er_n3_6 => k_is)
    (case er_n3_7 => k_is)
    (case er_n3_8 => k_is)
    (case er_n3_9 => k_is)
    (case er_n3_10 => k_is)
    (case er_n3_11 => k_is)
    (case er_n3_12 => k_is)
    (case er_n3_13 => k_is)
    (case er_n3_14 => k_is)
    (case er_n3_15 => k_is)
    (case er_n3_16 => k_is)
    (case er_n3_17 => k_is)
    (case er_n3_18 => k_is)
    (case er_n3_19 => k_is)
    (case er_n3_20 => k_is)
    (case er_n3_21 => k_is)
    (case er_n3_22 => k_is)
    (case er_n3_23 => k_is)
    (case er_n3_24 => k_is)
    (case er_n3_25 => k_is)
    (case er_n3_26 => k_is)
    (case er_n3_27 => k_is)
    (case er_hg3 => k_is)
    (case er_hk3 => k_is)
    (case er_hd3 => k_is)
    (case er_ha3 => k_is)
    (case er_hm3 => k_is)
    (case er_k23 => k_is)
    (case er_b23 => k_is)
    (case er_v23 => k_is)
    (case er_g23 => k_is)
    (case er_s23 => first | rfl | k_is)
    (case er_n23_0 => k_is)
    (case er_n23_1 => k_is)
    (case er_n23_2 => k_is)
    (case er_n23_3 => k_is)
    (case er_n23_4 => k_is)
    (case er_n23_5 => k_is)
    (case er_n23_6 => k_is)
    (case er_n23_7 => k_is)
    (case er_n23_8 => k_is)
    (case er_n23_9 => k_is)
    (case er_n23_10 => k_is)
    (case er_n23_11 => k_is)
    (case er_n23_12 => k_is)
    (case er_n23_13 => k_is)
    (case er_n23_14 => k_is)
    (case er_n23_15 => k_is)
    (case er_n23_16 => k_is)
    (case er_n23_17 => k_is)
    (case er_n23_18 => k_is)
    (case er_n23_19 => k_is)
    (case er_n23_20 => k_is)
    (case er_n23_21 => k_is)
    (case er_n23_22 => k_is)
    (case er_n23_24 => k_is)
    (case er_n23_25 => k_is)
    (case er_n23_26 => k_is)
    (case er_n23_27 => k_is)
    (case er_hg23 => k_is)
    (case er_hk23 => k_is)
    (case er_hd23 => k_is)
    (case er_ha23 => k_is)
    (case er_hm23 => k_is)
    (case hnX => k_is)
    (case htX => k_is)
    (case eL0 => rfl)
    (case lL0 => k_is)
    (case pL0 => rfl)
    (case tL0 => kernel_rfl)
    (case oL0 => kernel_rfl)
    (case rL0 => exact ⟨_, rfl⟩)
    (case eL1 => rfl)
    (case lL1 => k_is)
    (case pL1 => rfl)
    (case tL1 => kernel_rfl)
    (case oL1 => kernel_rfl)
    (case rL1 => exact ⟨_, rfl⟩)
    (case eL2 => rfl)
    (case lL2 => k_is)
    (case pL2 => rfl)
    (case tL2 => kernel_rfl)
    (case oL2 => kernel_rfl)
    (case rL2 => exact ⟨_, rfl⟩)
    (case lO => k_is)
    (case rO => rfl)
    (case saO => k_is)
    (case xa => k_is)
    (case xl => k_is)
    (case iI => k_is)
    (case lTI => k_is)
    (case cTI => k_is)
    (case kTI => k_is)
    (case tI => k_is)
    (case dL01 => decide)
    (case dL02 => decide)
    (case dL12 => decide)
