import PyProof.Rows.All
import KE.OsRunLaw
import PySem.Challenge.RW_startgaps_k30_least_mean_distances
import HandS.ForMost
import HandS.IsInst
import HandS.TupMul
import HandS.TupAny
import HandS.Walk
import HandS.Zip
import PyProof.ReprRoads
import PyProof.ReprBulk
import KE.GoesMore
import PyProof.EnumMake
import HandS.Star
import HandS.Property
import HandS.SortKw
import KE.KOpsOwn
import KE.DataMinMax
import PyProof.InstNe
import HandS.Style
import HandS.DictTup
import PyProof.DictMoreH
import HandS.Iter
import PyProof.Rows.RowBridgeK
import HandS.Wide
import PyProof.Rows.ReprShort
import PyProof.ReprLen
import HandS.Conv
import HandS.TupSets
import PyProof.P3Statements
import HandS.SetFor
import HandS.Strs
import HandS.Dict
import HandS.More
import HandS.Deep
import KE.KDictKeyed
import KE.SortKeyHeap
import HandS.EndTab
import KE.KNest
import PyProof.CallFns
import PyProof.StrOps2
import HandS.HotCalls
import HandS.ExcIs
import HandS.ExcOwn
import HandS.WordsExc
import KE.KTryMore
import HandS.Comp
import HandS.Exc
import KE.GoesComp
import KE.GoesRaise
import PySem.Builtin._heapq.W4All
import HandS.Gcd
import KE.SortData
import KE.KDictWalk
import HandS.DictComp
import KE.KDictDisplayH
import KE.DataCmp
import HandS.FStr
import HandS.Sort
import HandS.Flow
import HandS.Defaults
import KE.KTupSum
import HandS.WideBits
import HandS.WordsDict
set_option Elab.async false
set_option linter.all false
set_option maxRecDepth 100000
section
def Sg.cutAt : Nat → List Nat → List PySem.Stmt → List PySem.Stmt
  | _, _, [] => []
  | i, ds, x :: xs => if ds.contains i then Sg.cutAt (i + 1) ds xs else x :: Sg.cutAt (i + 1) ds xs
def Sg.view : PySem.Program := { PySem.Challenge.rw_startgaps_k30_least_mean_distances.row.prog with main := { (PySem.Challenge.rw_startgaps_k30_least_mean_distances.row.prog).main with body := Sg.cutAt 0 [1, 5, 17, 26, 34, 41, 46, 53, 58, 62, 64] (PySem.Challenge.rw_startgaps_k30_least_mean_distances.row.prog).main.body } }
abbrev Sg.loose : List PySem.Str := [PySem.Str.ofString "Line", PySem.Str.ofString "require_near"]
open PySem PySem.W PyProof.Rows
theorem Sg.map3 {α β γ δ : Type} {o : Option α} {f : α → β} {g : α → γ} {h : α → δ} {a : β} {b : γ} {c : δ} (h1 : o.map f = some a) (h2 : o.map g = some b) (h3 : o.map h = some c) : o.map (fun s => (f s, g s, h s)) = some (a, b, c) := by
  cases o with
  | none => cases h1
  | some x => cases h1; cases h2; cases h3; rfl
theorem Sg.map9 {α T1 T2 T3 T4 T5 T6 T7 T8 T9 : Type} {o : Option α} {f : α → T1 × T2 × T3 × T4 × T5 × T6 × T7 × T8 × T9} {a1 : T1} {a2 : T2} {a3 : T3} {a4 : T4} {a5 : T5} {a6 : T6} {a7 : T7} {a8 : T8} {a9 : T9} (h1 : o.map (fun x => (f x).1) = some a1) (h2 : o.map (fun x => (f x).2.1) = some a2) (h3 : o.map (fun x => (f x).2.2.1) = some a3) (h4 : o.map (fun x => (f x).2.2.2.1) = some a4) (h5 : o.map (fun x => (f x).2.2.2.2.1) = some a5) (h6 : o.map (fun x => (f x).2.2.2.2.2.1) = some a6) (h7 : o.map (fun x => (f x).2.2.2.2.2.2.1) = some a7) (h8 : o.map (fun x => (f x).2.2.2.2.2.2.2.1) = some a8) (h9 : o.map (fun x => (f x).2.2.2.2.2.2.2.2) = some a9) : o.map f = some (a1, a2, a3, a4, a5, a6, a7, a8, a9) := by
  cases o with
  | none => cases h1
  | some x =>
    have e := fun {β : Type} {u v : β} (h : some u = some v) => Option.some.inj h
    show some (f x) = _
    congr 1
    rw [← e h1, ← e h2, ← e h3, ← e h4, ← e h5, ← e h6, ← e h7, ← e h8, ← e h9]
theorem Sg.hA (w : PySem.World) : Option.map (fun x => HeadRun.looksF PySem.Challenge.rw_startgaps_k30_least_mean_distances.row.prog x.1.heap x.2.abs) (HeadRun.wholeF (fun p => HeadRun.stepQ (HeadRun.denQ HeadRun.tabQ) p w) HeadRun.fenceQ 9316 PySem.Challenge.rw_startgaps_k30_least_mean_distances.row.prog) = some true := by kernel_rfl
theorem Sg.hB1 (w : PySem.World) : Option.map (fun x => (HeadRun.seenQ Sg.view Sg.loose (PySem.importedModules PySem.Challenge.rw_startgaps_k30_least_mean_distances.row.prog.main.body) (fun s => PySem.W.xlAt Sg.view [] s && PySem.W.recOk PySem.Challenge.rw_startgaps_k30_least_mean_distances.row.records s) x.2.abs).1) (HeadRun.wholeF (fun p => HeadRun.stepQ (HeadRun.denQ HeadRun.tabQ) p w) HeadRun.fenceQ 9316 PySem.Challenge.rw_startgaps_k30_least_mean_distances.row.prog) = some (expectedOf Sg.view) := by kernel_rfl
theorem Sg.hB2 (w : PySem.World) : Option.map (fun x => (HeadRun.seenQ Sg.view Sg.loose (PySem.importedModules PySem.Challenge.rw_startgaps_k30_least_mean_distances.row.prog.main.body) (fun s => PySem.W.xlAt Sg.view [] s && PySem.W.recOk PySem.Challenge.rw_startgaps_k30_least_mean_distances.row.records s) x.2.abs).2.1) (HeadRun.wholeF (fun p => HeadRun.stepQ (HeadRun.denQ HeadRun.tabQ) p w) HeadRun.fenceQ 9316 PySem.Challenge.rw_startgaps_k30_least_mean_distances.row.prog) = some (bltViewBooted) := by kernel_rfl
theorem Sg.hB3 (w : PySem.World) : Option.map (fun x => (HeadRun.seenQ Sg.view Sg.loose (PySem.importedModules PySem.Challenge.rw_startgaps_k30_least_mean_distances.row.prog.main.body) (fun s => PySem.W.xlAt Sg.view [] s && PySem.W.recOk PySem.Challenge.rw_startgaps_k30_least_mean_distances.row.records s) x.2.abs).2.2.1) (HeadRun.wholeF (fun p => HeadRun.stepQ (HeadRun.denQ HeadRun.tabQ) p w) HeadRun.fenceQ 9316 PySem.Challenge.rw_startgaps_k30_least_mean_distances.row.prog) = some (true) := by kernel_rfl
theorem Sg.hB4 (w : PySem.World) : Option.map (fun x => (HeadRun.seenQ Sg.view Sg.loose (PySem.importedModules PySem.Challenge.rw_startgaps_k30_least_mean_distances.row.prog.main.body) (fun s => PySem.W.xlAt Sg.view [] s && PySem.W.recOk PySem.Challenge.rw_startgaps_k30_least_mean_distances.row.records s) x.2.abs).2.2.2.1) (HeadRun.wholeF (fun p => HeadRun.stepQ (HeadRun.denQ HeadRun.tabQ) p w) HeadRun.fenceQ 9316 PySem.Challenge.rw_startgaps_k30_least_mean_distances.row.prog) = some (true) := by kernel_rfl
theorem Sg.hB5 (w : PySem.World) : Option.map (fun x => (HeadRun.seenQ Sg.view Sg.loose (PySem.importedModules PySem.Challenge.rw_startgaps_k30_least_mean_distances.row.prog.main.body) (fun s => PySem.W.xlAt Sg.view [] s && PySem.W.recOk PySem.Challenge.rw_startgaps_k30_least_mean_distances.row.records s) x.2.abs).2.2.2.2.1) (HeadRun.wholeF (fun p => HeadRun.stepQ (HeadRun.denQ HeadRun.tabQ) p w) HeadRun.fenceQ 9316 PySem.Challenge.rw_startgaps_k30_least_mean_distances.row.prog) = some (pinGoodD (drecsOf Sg.view)) := by kernel_rfl
theorem Sg.hB6 (w : PySem.World) : Option.map (fun x => (HeadRun.seenQ Sg.view Sg.loose (PySem.importedModules PySem.Challenge.rw_startgaps_k30_least_mean_distances.row.prog.main.body) (fun s => PySem.W.xlAt Sg.view [] s && PySem.W.recOk PySem.Challenge.rw_startgaps_k30_least_mean_distances.row.records s) x.2.abs).2.2.2.2.2.1) (HeadRun.wholeF (fun p => HeadRun.stepQ (HeadRun.denQ HeadRun.tabQ) p w) HeadRun.fenceQ 9316 PySem.Challenge.rw_startgaps_k30_least_mean_distances.row.prog) = some (plainGoodE Sg.view (looseW Sg.view Sg.loose)) := by kernel_rfl
theorem Sg.hB7 (w : PySem.World) : Option.map (fun x => (HeadRun.seenQ Sg.view Sg.loose (PySem.importedModules PySem.Challenge.rw_startgaps_k30_least_mean_distances.row.prog.main.body) (fun s => PySem.W.xlAt Sg.view [] s && PySem.W.recOk PySem.Challenge.rw_startgaps_k30_least_mean_distances.row.records s) x.2.abs).2.2.2.2.2.2.1) (HeadRun.wholeF (fun p => HeadRun.stepQ (HeadRun.denQ HeadRun.tabQ) p w) HeadRun.fenceQ 9316 PySem.Challenge.rw_startgaps_k30_least_mean_distances.row.prog) = some (plainGoodD Sg.view Sg.loose) := by kernel_rfl
theorem Sg.hB8 (w : PySem.World) : Option.map (fun x => (HeadRun.seenQ Sg.view Sg.loose (PySem.importedModules PySem.Challenge.rw_startgaps_k30_least_mean_distances.row.prog.main.body) (fun s => PySem.W.xlAt Sg.view [] s && PySem.W.recOk PySem.Challenge.rw_startgaps_k30_least_mean_distances.row.records s) x.2.abs).2.2.2.2.2.2.2.1) (HeadRun.wholeF (fun p => HeadRun.stepQ (HeadRun.denQ HeadRun.tabQ) p w) HeadRun.fenceQ 9316 PySem.Challenge.rw_startgaps_k30_least_mean_distances.row.prog) = some (wideGood Sg.view) := by kernel_rfl
theorem Sg.hB9 (w : PySem.World) : Option.map (fun x => (HeadRun.seenQ Sg.view Sg.loose (PySem.importedModules PySem.Challenge.rw_startgaps_k30_least_mean_distances.row.prog.main.body) (fun s => PySem.W.xlAt Sg.view [] s && PySem.W.recOk PySem.Challenge.rw_startgaps_k30_least_mean_distances.row.records s) x.2.abs).2.2.2.2.2.2.2.2) (HeadRun.wholeF (fun p => HeadRun.stepQ (HeadRun.denQ HeadRun.tabQ) p w) HeadRun.fenceQ 9316 PySem.Challenge.rw_startgaps_k30_least_mean_distances.row.prog) = some (clsGoodW Sg.view Sg.loose) := by kernel_rfl
theorem Sg.carry {V : PySem.Program} (e : Sg.view = V) (w : PySem.World) {as : List PySem.Addr} {c : List (Option PySem.Obj)} (hc : Option.map (fun x => List.map (HeadRun.getT x.2) as) (HeadRun.wholeF (fun p => HeadRun.stepQ (HeadRun.denQ HeadRun.tabQ) p w) HeadRun.fenceQ 9316 PySem.Challenge.rw_startgaps_k30_least_mean_distances.row.prog) = some c) :
    Option.map (fun x => (HeadRun.looksF PySem.Challenge.rw_startgaps_k30_least_mean_distances.row.prog x.1.heap x.2.abs, (HeadRun.seenQ V Sg.loose (PySem.importedModules PySem.Challenge.rw_startgaps_k30_least_mean_distances.row.prog.main.body) (fun s => PySem.W.xlAt V [] s && PySem.W.recOk PySem.Challenge.rw_startgaps_k30_least_mean_distances.row.records s) x.2.abs), List.map (HeadRun.getT x.2) as)) (HeadRun.wholeF (fun p => HeadRun.stepQ (HeadRun.denQ HeadRun.tabQ) p w) HeadRun.fenceQ 9316 PySem.Challenge.rw_startgaps_k30_least_mean_distances.row.prog) = some (true, openGood V Sg.loose, c) := by
  subst e
  have eo : openGood Sg.view Sg.loose = (expectedOf Sg.view, bltViewBooted, true, true, pinGoodD (drecsOf Sg.view), plainGoodE Sg.view (looseW Sg.view Sg.loose), plainGoodD Sg.view Sg.loose, wideGood Sg.view, clsGoodW Sg.view Sg.loose) := rfl
  with_reducible refine Sg.map3 ?_ ?_ ?_
  · with_reducible exact Sg.hA w
  · rw [eo]
    with_reducible refine Sg.map9 ?_ ?_ ?_ ?_ ?_ ?_ ?_ ?_ ?_
    · with_reducible exact Sg.hB1 w
    · with_reducible exact Sg.hB2 w
    · with_reducible exact Sg.hB3 w
    · with_reducible exact Sg.hB4 w
    · with_reducible exact Sg.hB5 w
    · with_reducible exact Sg.hB6 w
    · with_reducible exact Sg.hB7 w
    · with_reducible exact Sg.hB8 w
    · with_reducible exact Sg.hB9 w
  · with_reducible exact hc
end
set_option Elab.async false
set_option linter.all false
set_option maxRecDepth 100000
set_option maxHeartbeats 4000000
namespace Sg
open PySem PySem.Spec PyProof.Rows L2
/-! ## defs that may ask for a text of data: they run outside of every such text -/
/-- a promise that holds where no text of data is being made -/
structure FnG (P : Program) (w : World) (K : PySem.W.Frag) (mg : Str → Option Value) (base : Heap) (k : Nat) (f : Addr)
    (fd : FuncData) (ps : List Str) (sp : Sp) : Prop where
  arity : ∀ vs H Q, sp vs H Q E0 → vs.length = ps.length
  go : ∀ (A : Around) (outer : List Env) (s : Shared) (H : Hp) (args : Args) (us : List Value) (vs : List V) (Q : VK),
    A.guards = some [] → Room k A → Env0 P w K mg base A outer s H → BindsTo s fd args (ps.zip us) → Vals vs us →
    sp vs H Q E0 → codeAny (model P w) A (.call (.ref f) args) (CR CX0 outer P w H s Q E0) s
section
variable {P : Program} {w : World} {K : PySem.W.Frag} {mg : Str → Option Value} {base : Heap} {k : Nat} {f : Addr}
variable {fd : FuncData} {ps : List Str} {sp : Sp}
theorem FnG.of (F : FnOk P w K mg base CX0 k f fd ps sp) : FnG P w K mg base k f fd ps sp :=
  ⟨fun vs H Q h => F.len vs H Q E0 h, fun A outer s H args us vs Q _ hr e0 hb hv h =>
    F.run A outer s H args us vs Q E0 hr e0 hb hv h⟩
theorem FnG.mono {j : Nat} (F : FnG P w K mg base j f fd ps sp) (h : j ≤ k) : FnG P w K mg base k f fd ps sp :=
  ⟨F.arity, fun A outer s H args us vs Q hg hr => F.go A outer s H args us vs Q hg (hr.mono h)⟩
/-- a def's body, where no text of data is being made -/
theorem fnG_mk {x qual : Str} {st : Stmt} {N : List Str} (F : Fun K x qual st f fd)
    (S : FnScope N ps (defScope st)) (arity : ∀ vs H Q, sp vs H Q E0 → vs.length = ps.length)
    (hbody : ∀ (cdv : Value) (A : Around) (outer : List Env) (s : Shared) (H : Hp) (vs : List V) (Q : VK),
      (A.deeper (envOfC qual (defScope st) s.heap.objs.size f cdv)).guards = some [] →
      Room k (A.deeper (envOfC qual (defScope st) s.heap.objs.size f cdv)) → sp vs H Q E0 →
      ∃ t, PSs (cxOf CX0 P w K mg base N qual (defScope st) f cdv A outer s H E0).nox (defBody st) t ∧
        t { nx := fun _ H' => Q .non H', rt := Q } (start N vs) H) :
    FnG P w K mg base (k + 1) f fd ps sp := by
  obtain ⟨oc, od, kV, doc, pm, an, cdv, ct, osl, rfl, lk, hcd⟩ := F.ex
  refine ⟨arity, ?_⟩
  intro A outer s H args us vs Q hg hr e0 hb r hsp
  have hl := arity _ _ _ hsp
  have hk0 : ∀ b o, base.get? b = some o → s.heap.get? b = some o := fun b o e => (e0.bs b o e).1
  have KX : K.In s.heap := e0.mod.kin.keeps hk0
  have lim : s.heap.NoLimit := e0.mod.nolimit.keeps hk0
  refine codeAny_call_function hr.depth (KX _ _ lk) rfl S.co S.gen rfl (PySem.W.codeRec_of KX hcd) ?_
  refine hb _ _ _ _ (wpAny_newFunctionEnv_cells S.kind ?_ ?_)
  · rintro ⟨n, v⟩ hy
    have hn := S.par n (List.of_mem_zip hy).1
    cases hn with
    | inl q => exact .inl q
    | inr q => exact .inr ⟨q, PySem.W.cellsFrom_some _ _ _ (.inl q)⟩
  · intro env he s1 x
    subst he
    refine ⟨lim.keeps x.toInCall.keep, ?_⟩
    apply codeAny_func
    obtain ⟨t, ht, hq⟩ := hbody cdv A outer s H vs Q hg (hr.deeper _) hsp
    have ht' := ht.nox
    have I := inv_start (CX := CX0) (E := E0) (cd := cdv) (qual := qual) (f := f) S hr.hd e0 hl r x
    refine wpAny_mono (ht'.run [] s1 (start N vs) H _ I hq) ?_ (fun e s' hs => hs)
    intro fl s' hs
    cases fl with
    | ret u =>
      obtain ⟨v, σ', H', J, rv, q⟩ := hs
      exact ⟨v, H', J.os, J.bare, J.base, J.hok, rv, q⟩
    | next =>
      obtain ⟨σ', H', J, q⟩ := hs
      exact ⟨V.non, H', J.os, J.bare, J.base, J.hok, rfl, q⟩
    | brk => obtain ⟨_, _, _, q⟩ := hs; exact q.elim
    | cont => obtain ⟨_, _, _, q⟩ := hs; exact q.elim
end
section
variable {X : Cx} {k : Nat} {f : Addr} {fd : FuncData} {ps : List Str} {sp : Sp} {dvs : List V} {ds : List Value}
variable {x : Str} {p pos : Pos} {e : Expr} {es : List Expr} {t : TA}
/-- f(a, ..) of such a def -/
theorem pe_callG (F : FnG X.prog X.w X.K X.mg X.base k f fd ps sp) (hgd : X.A.guards = some []) (hr : Room k X.A)
    (hg : Gl X x) (hm : X.mg x = some (.ref f)) (hk : PySem.W.keepIn X.K (.ref f) = true) (hb : Binds X.K fd ps [])
    (ha : PA X (e :: es) t) (hdb : (x == ("__debug__" : Str)) = false := by decide)
    (he : starEach (e :: es) X.env = (false, eval e X.env) :: starEach es X.env := by rfl)
    (hpl : (backTo pos (starEach es X.env)).any (·.1) = false := by rfl) :
    PE X (.Call (.Name x p) (e :: es) [] pos) (tCall sp [] E0 t) := by
  constructor
  intro pins s σ H Q I h
  refine wpAny_Call_Name_kw (ld_glob I hg hm (PySem.W.callWith_K (h₀ := X.base) I.ok.mod.kin hk ?_ he hpl) hdb)
  refine thn (ha.run pos pins s σ H _ I h) ?_
  rintro us s1 ⟨vs, H1, I1, r, q⟩
  refine ⟨I1.kIn, ?_⟩
  rw [List.append_nil] at q
  have hl : (us ++ []).length = ps.length := by rw [List.append_nil, ← r.length]; exact F.arity _ _ _ q
  have hbb := hb s1 us I1.kIn hl
  rw [List.append_nil] at hbb
  refine wpAny_call (codeAny_mono (F.go X.A X.stack s1 H1 ⟨us, []⟩ us vs Q hgd hr I1.env0 hbb r q) ?_)
  intro r' s' hq
  match r', hq with
  | .error _, hq => exact hq.elim
  | .ok (.ret _), hq => exact I1.after hq
  | .ok .next, hq => exact hq.elim
  | .ok .brk, hq => exact hq.elim
  | .ok .cont, hq => exact hq.elim
/-! ## repr of data -/
/-- what may be shown: its ints are not too great, and the text is not too long -/
def Shows (d : PyData) : Prop := d.showable = true ∧ d.hasDict = false ∧ d.depth ≤ 40 ∧ d.shown.length ≤ sizeLine
theorem call_reprD {j : Nat} (hgd : X.A.guards = some []) (hr : Room j X.A) :
    CallR X (.builtin "repr") (fun xs H Q => ∃ a d, xs = [.ref a] ∧ Dp X.K H (.ref a) d ∧ Shows d ∧ Q (.str d.shown) H) := by
  intro pins s σ H xs us Q I r h
  obtain ⟨a, d, rfl, hd, ⟨h1, h2, h3, h4⟩, q⟩ := h
  obtain ⟨u, rfl, rfl⟩ := vals1 r
  obtain ⟨as, rd⟩ := Dp.reads I d (.ref a) (.ref a) hd rfl
  have hu := hr.units
  refine repr_of_reads' (h₀ := s.heap) rd h1 (fun z => ?_) hgd (by omega) (fun _ _ z => z) (fun h' u tk hk => ?_) h4
  · rw [h2] at z; cases z
  · exact ⟨.str d.shown, H, I.kept hk, ⟨u, rfl⟩, q⟩
end
end Sg
set_option Elab.async false
set_option linter.all false
set_option maxRecDepth 100000
set_option maxHeartbeats 4000000
namespace Sg
open PySem PySem.Spec PyProof.Rows L2
/-! ## the law's own call -/
section
variable {P : Program} {w : World} {K : PySem.W.Frag} {mg mb : Str → Option Value} {k : Nat} {fa a : Addr}
variable {fd : FuncData} {x : Str} {sp : Sp} {s₁ : Shared} {vs : List Value} {ns : List Int}
/-- what is asked of the law's call -/
abbrev Ended (s₁ : Shared) : Result → Shared → Prop := fun r s' =>
  r = .ok (.ret (.bool true)) ∧ OldK s₁.heap s'.heap ∧ s'.os = s₁.os ∧ AllBare s'.gens
theorem call_from {H : Hp} (KX : K.In s₁.heap) (hns : s₁.heap.Ns mainGlobals mg) (hb : s₁.heap.Ns builtinsNs mb)
    (hbb : ∀ x : Str, x ≠ "__name__" → mb x = bootBuiltins x) (hlim : s₁.heap.NoLimit) (hg : s₁.gens = #[])
    (ha : s₁.heap.get? a = some { cls := .type "list", data := .seq vs.toArray }) (hr : Room k callerA)
    (F : ∀ base : Heap, K.In base → base.Ns mainGlobals mg → FnG P w K mg base k fa fd [x] sp)
    (hbind : ∀ (s : Shared) (u : Value), BindsTo s fd ⟨[u], []⟩ [(x, u)])
    (hsp : sp [.ref a] H (fun v _ => v = .bl true) E0) (hO : Only H) (hok : HOk P w H s₁.heap)
    (hA : ∀ b, H b ≠ none → b = a) (hK : H a ≠ none → K.lookup a = none) :
    codeAny (model P w) callerA (.call (.ref fa) ⟨[.ref a], []⟩) (Ended s₁) s₁ := by
  have only : ∀ {b : Addr} {u : HO}, H b = some u → b = a := fun z => hA _ (by rw [z]; exact fun q => nomatch q)
  have free : ∀ {b : Addr} {o : Obj} {es : Array DictEntry} {ep : Nat},
      s₁.heap.get? b = some o → o.data = .dict es ep → H b = none := by
    intro b o es ep e d
    rcases q : H b with _ | u
    · rfl
    · rw [only q, ha] at e
      have e' := Option.some.inj e
      rw [← e'] at d
      exact nomatch d
  have nsK : ∀ {b : Addr} {m : Str → Option Value}, s₁.heap.Ns b m → (hidT s₁.heap H).Ns b m := by
    rintro b m ⟨o, es, ep, e, d, r⟩
    exact ⟨o, es, ep, hidT_get e (free e d), d, r⟩
  have hKb : K.In (hidT s₁.heap H) := by
    intro b o e
    refine hidT_get (KX b o e) ?_
    rcases q : H b with _ | u
    · rfl
    · have e' := only q
      subst e'
      have z := hK (by rw [q]; exact fun q => nomatch q)
      rw [z] at e
      exact nomatch e
  have hM : Mod K mg (hidT s₁.heap H) := by
    refine ⟨hKb, nsK hns, ⟨mb, nsK hb, hbb⟩, ?_⟩
    obtain ⟨mc, h1, h2⟩ := hlim
    exact ⟨mc, nsK h1, h2⟩
  have e0 : Env0 P w K mg (hidT s₁.heap H) callerA [] s₁ H := by
    refine ⟨rfl, hM, fun b o e => of_hidT e, Nat.le_of_eq (hidT_size _ _), trivial, ?_, hok, .of_eq hg⟩
    intro b hb
    have hb' : b ∈ ([] : List Addr) := hb
    exact nomatch hb'
  have run := (F _ hKb (nsK hns)).go callerA [] s₁ H ⟨[.ref a], []⟩ [.ref a] [.ref a] _ rfl hr e0
    (hbind s₁ (.ref a)) (.cons rfl .nil) hsp
  refine codeAny_mono run ?_
  intro r s' h
  match r, h with
  | .error _, h => exact h.elim
  | .ok .next, h => exact h.elim
  | .ok .brk, h => exact h.elim
  | .ok .cont, h => exact h.elim
  | .ok (.ret u), h =>
    obtain ⟨v, H', os, bare, un, hok', r', q⟩ := h
    have q' : v = .bl true := q
    subst q'
    have eu : u = Value.bool true := r'
    subst eu
    refine ⟨rfl, OldK.of_keep ?_, os, bare⟩
    intro b o e
    rcases q : H b with _ | u
    · refine un.keep b o e q (fun z => ?_) (fun z => nomatch z)
      have z' : b ∈ ([] : List Addr) := z
      exact nomatch z'
    · rcases hO b with z | ⟨ob, xs, z⟩
      · rw [q] at z; exact nomatch z
      · obtain ⟨e1, _⟩ := hok b _ z
        obtain ⟨e2, _⟩ := hok' b _ (un.frzs b ob _ z)
        rw [e] at e1
        rw [e2, Option.some.inj e1]
theorem call_law (KX : K.In s₁.heap) (hns : s₁.heap.Ns mainGlobals mg) (hb : s₁.heap.Ns builtinsNs mb)
    (hbb : ∀ x : Str, x ≠ "__name__" → mb x = bootBuiltins x) (hlim : s₁.heap.NoLimit) (hg : s₁.gens = #[])
    (ha : s₁.heap.get? a = some { cls := .type "list", data := .seq vs.toArray }) (hi : IntsAre vs ns)
    (hl : ns.length ≤ sizeLine) (hr : Room k callerA)
    (F : ∀ base : Heap, K.In base → base.Ns mainGlobals mg → FnG P w K mg base k fa fd [x] sp)
    (hbind : ∀ (s : Shared) (u : Value), BindsTo s fd ⟨[u], []⟩ [(x, u)])
    (hsp : ∀ H : Hp, Only H → SqL K H a (ns.map V.int) → sp [.ref a] H (fun v _ => v = .bl true) E0) :
    codeAny (model P w) callerA (.call (.ref fa) ⟨[.ref a], []⟩) (Ended s₁) s₁ := by
  have rv := vals_ints hi
  have lenV := hi.length
  rcases hk : K.lookup a with _ | o
  · let H : Hp := fun b => if b = a then some (.frz { cls := .type "list", data := .seq vs.toArray } (.lst (ns.map V.int))) else none
    have at_a : H a = some (.frz { cls := .type "list", data := .seq vs.toArray } (.lst (ns.map V.int))) := if_pos rfl
    have off : ∀ b, b ≠ a → H b = none := fun b hb => if_neg hb
    have onlyH : Only H := by
      intro b
      by_cases hb : b = a
      · exact .inr ⟨_, _, if_pos hb⟩
      · exact .inl (off b hb)
    refine call_from (H := H) KX hns hb hbb hlim hg ha hr F hbind (hsp H onlyH (.inl (.inr ⟨_, at_a⟩))) onlyH ?_ ?_ (fun _ => hk)
    · intro b u z
      by_cases hb : b = a
      · subst hb
        rw [at_a] at z
        obtain rfl := Option.some.inj z
        exact ⟨ha, by rw [List.length_map]; exact hl, vs, _, rv, ha⟩
      · rw [off b hb] at z; exact nomatch z
    · intro b z
      by_cases hb : b = a
      · exact hb
      · exact absurd (off b hb) z
  · have e := KX a o hk
    rw [ha] at e
    obtain rfl := Option.some.inj e
    refine call_from (H := fun _ => none) KX hns hb hbb hlim hg ha hr F hbind (hsp _ (fun _ => .inl rfl) (.inr ?_)) (fun _ => .inl rfl)
      (fun b u z => nomatch z) (fun b z => absurd rfl z) (fun z => absurd rfl z)
    exact ⟨_, vs.toArray, _, hk, rfl, rfl, rfl, by rw [List.size_toArray, lenV]; exact hl, rv⟩
end
/-- the end of a law's proof -/
theorem walk_law {l : PySem.W.OpenLaw} {k : Nat} {q : Program} {loose : List Str} {XP : (Str → Option Value) → Heap → Prop}
    {YP : World → Heap → Prop} {d : DefRec} {K : Params → PySem.W.Frag} {sp : PySem.W.Frag → Sp} {x : Str}
    (hn : l.most = some 63) (hdf : d.params.defaults = []) (hr : Room k callerA)
    (hY : ∀ (w : World) (h : Heap), YP w h → (K w.params).In h)
    (F : ∀ (w : World) (mg : Str → Option Value) (fa : Addr) (h : Heap), (K w.params).In h → h.Ns mainGlobals mg →
      mg d.name = some (.ref fa) → ∃ fd : FuncData, (∀ (s : Shared) (u : Value), BindsTo s fd ⟨[u], []⟩ [(x, u)]) ∧
        ∀ base : Heap, (K w.params).In base → base.Ns mainGlobals mg →
          FnG l.prog w (K w.params) mg base k fa fd [x] (sp (K w.params)))
    (hsp : ∀ (K : PySem.W.Frag) (H : Hp) (a : Addr) (ns : List Int), ns.length ≤ 63 → Only H → SqL K H a (ns.map V.int) →
      sp K [.ref a] H (fun v _ => v = .bl true) E0) :
    PySem.W.WalkO q loose XP YP l.row.toRowW d [] (fun f vs => PySem.call f vs) := by
  refine Att.attach_call hn hdf ?_
  intro w s₀ s₁ mg mb fa o pm cd doc a vs ns G Y ho hd hcd hmg hobj hints hlen hg
  obtain ⟨fd, hb, hF⟩ := F w mg fa _ (hY w _ Y) G.T.g hmg
  exact call_law (hY w _ Y) G.T.g G.T.b G.T.builtins G.T.nolimit hg hobj hints
    (Nat.le_trans hlen (by decide)) hr hF hb (fun H hO hS => hsp _ H a ns hlen hO hS)
end Sg
set_option Elab.async false
set_option linter.all false
set_option maxRecDepth 100000
set_option maxHeartbeats 4000000
namespace PySem
open Sem (wp)
open AutoSeq1 (wpAny_loadPart')
/-- enumerate(t), t a tuple: its two new cells -/
theorem sg_enum_new (l : Addr) (items : Array Value) :
    Meets (Builtin.«enumerate.__new__» ⟨[.type "enumerate", .ref l], []⟩) (fun _ R s => s.heap.IsTuple l items ∧
      R (.ok (.ret (.ref (s.heap.push { cls := .type "tuple_iterator", data := .fields #[.ref l, .int 0 0] }).objs.size)))
        { s with heap := ((s.heap.push { cls := .type "tuple_iterator", data := .fields #[.ref l, .int 0 0] }).push { cls := .type "enumerate", data := .fields #[.none, .bool false, .ref s.heap.objs.size, rawInt 0, .none, .none] }) }) := by
  refine .of_wp ?_
  intro prog w A R s h
  obtain ⟨hp, g, d, tk, os⟩ := s
  obtain ⟨hT, h⟩ := h
  obtain ⟨o, hl, hc, n, hd⟩ := id hT
  have hsub := sub_enumerate
  wp_walk using wpAny_loadPart' hl
  refine wpAny_stack_any fun st => wpAny_pure ?_
  split
  · rename_i c _ _ _ _ _
    rcases hcc : (c == Value.type "enumerate") with _ | _ <;>
    · wp_walk using wpAny_loadPart' hl, wpAny_pyIter_tuple hT
      exact ⟨_, rfl, h⟩
  · wp_walk using wpAny_loadPart' hl, wpAny_pyIter_tuple hT
    exact ⟨_, rfl, h⟩
section
variable {prog : Program} {w : World} {A : Around} {E : Value → Shared → Prop} {s : Shared}
theorem sg_call_enum {l : Addr} {items : Array Value} {Q : Value → Shared → Prop} (hL : s.heap.IsTuple l items)
    (h : ∀ h', IsEnum h' (s.heap.objs.size + 1) s.heap.objs.size 0 .none → h'.IsTupleIter s.heap.objs.size l 0 →
      (∀ b o, s.heap.get? b = some o → h'.get? b = some o) → Q (.ref (s.heap.objs.size + 1)) { s with heap := h' }) :
    wpAny (model prog w) A (call (.type "enumerate") [.ref l]) Q E s := by
  refine callType_new F.called_enumerate (by decide) (F.typeCall_enumerate_1 _) (F.newCall_enumerate_1 _)
    (fun obj => F.args_object_init_2 obj _) F.entry_enumerate_new (sg_enum_new l items) ⟨hL, ?_⟩
  let o1 : Obj := { cls := .type "tuple_iterator", data := .fields #[.ref l, .int 0 0] }
  have hz : (s.heap.push o1).objs.size = s.heap.objs.size + 1 := Heap.size_push ..
  show _ ∧ _
  rw [hz]
  have he : IsEnum ((s.heap.push o1).push { cls := .type "enumerate", data := .fields #[.none, .bool false, .ref s.heap.objs.size, rawInt 0, .none, .none] })
      (s.heap.objs.size + 1) s.heap.objs.size 0 .none := by
    have z := Heap.get?_push_size (s.heap.push o1)
      (o := { cls := .type "enumerate", data := .fields #[.none, .bool false, .ref s.heap.objs.size, rawInt 0, .none, .none] }) rfl
    rw [hz] at z
    exact z
  refine ⟨⟨_, he, rfl⟩, h _ he ⟨_, Heap.get?_push_of_some _ (Heap.get?_push_size _ rfl), rfl, rfl⟩ ?_⟩
  intro b o x
  exact Heap.get?_push_of_some _ (Heap.get?_push_of_some _ x)
end
end PySem
namespace Sg
open PySem PySem.Spec PyProof.Rows L2
/-- the tuple at a, item by item, each in a new pair with its place -/
def ItE (K : PySem.W.Frag) (a : Addr) : It :=
  ⟨fun i H => ∃ (xs : List V) (x : V), SqT K H a xs ∧ xs[i]? = some x,
   fun i H v H' => ∃ T x, v = .ref T ∧ H T = none ∧ H' = upd H T (.tup [.int (i : Nat), x]) ∧ ∀ xs, SqT K H a xs → xs[i]? = some x,
   fun i H => ∃ xs : List V, SqT K H a xs ∧ xs.length ≤ i⟩
theorem turn_enumT {P : Program} {w : World} {K : PySem.W.Frag} {elts : List Expr} {kk : Nat} {tpos : Pos} (a e it : Addr) :
    Turn P w K (.Tuple elts kk tpos) (ItE K a) [e, it] e
      (fun i h => (∃ old, IsEnum h e it ((i : Nat) : Int) old) ∧ h.IsTupleIter it a i ∧ e ≠ it) := by
  have two : ∀ {b : Addr}, b ∈ [e, it] → b = e ∨ b = it := fun {b} hb => by simpa using hb
  refine ⟨by simp, ?_, ?_, ?_, ?_, ?_⟩
  · rintro i h ⟨⟨old, he⟩, ⟨o, ho, hc, hd⟩, _⟩ b hb
    rcases two hb with rfl | rfl
    · exact ⟨_, he, fun v q => nomatch q⟩
    · refine ⟨o, ho, fun v q => ?_⟩
      rw [hd] at q
      exact nomatch q
  · rintro i h h' ⟨⟨old, he⟩, hi, hne⟩ k
    exact ⟨⟨old, k e (by simp) _ he⟩, hi.at fun o q => k it (by simp) o q, hne⟩
  · intro X hP hw hK hc i pins s σ H E I hf st hg
    subst hP hw hK
    obtain ⟨⟨old, he⟩, hit, hne⟩ := st
    obtain ⟨xs, x, hq, hx⟩ := hg
    obtain ⟨its, rv, p, hz⟩ := I.tuple hq
    obtain ⟨u, hu, ru⟩ := rv.get hx
    have hel : e < s.heap.objs.size := Heap.lt_size he
    have hil : it < s.heap.objs.size := by obtain ⟨_, q, _⟩ := hit; exact Heap.lt_size q
    have hai : a ≠ it := by
      rintro rfl
      obtain ⟨o, ho, hcl, _⟩ := p
      obtain ⟨o', ho', hcl', _⟩ := hit
      rw [ho] at ho'
      obtain rfl := Option.some.inj ho'
      rw [hcl] at hcl'
      exact absurd hcl' (by decide)
    have hae : e ≠ a := by
      rintro rfl
      obtain ⟨o, ho, hcl, _⟩ := p
      have he' : s.heap.get? e = _ := he
      rw [ho] at he'
      obtain rfl := Option.some.inj he'
      have z : ("enumerate" : String) = "tuple" := Value.type.inj hcl
      exact absurd z (by decide)
    have hlt : i < its.length := (List.getElem?_eq_some_iff.mp hu).1
    refine wpAny_pyNext_enum_itemD (Draws.tuple (A := X.A.in1) (I.ok.hd hc) it a hai its.toArray) he ⟨hit, p⟩
      (by simpa using hlt) hne (by simp [hne, hae]) ?_
    intro x' h' tk hP ho hs' hT hsz hk
    have hxu : x' = u := by
      have z : its[i]? = some x' := by simpa using hP
      rw [hu] at z
      exact (Option.some.inj z).symm
    subst hxu
    refine ⟨_, rfl, wpAny_letOwnedTupleGo_enum (s := { s with heap := h', toks := tk + 1 }) ho ?_⟩
    intro h'' he' sb
    have hT2 : h''.get? s.heap.objs.size = some { cls := .type "tuple", data := .seq #[.int i tk, x'] } :=
      (sb.2 _ (Nat.ne_of_gt hel)).trans hT
    have new : ObjOk X.prog X.w (upd H s.heap.objs.size (.tup [.int (i : Nat), x])) h'' s.heap.objs.size (.tup [.int (i : Nat), x]) := by
      refine ⟨by show 2 ≤ sizeLine; decide, [.int i tk, x'], .cons ⟨_, rfl⟩ (.cons ru .nil), ⟨_, hT2, rfl, _, rfl⟩⟩
    have I1 : Inv X pins σ (upd H s.heap.objs.size (.tup [.int (i : Nat), x])) { s with heap := h'', toks := tk + 1 } := by
      refine I.turnedNew (ch := [e, it]) ?_ hf (Nat.le_refl _) new
      intro b ob hb q
      have n1 : b ≠ e := fun z => hb (by simp [z])
      have n2 : b ≠ it := fun z => hb (by simp [z])
      exact (sb.2 b n1).trans (hk b ob n1 n2 q)
    refine ⟨.ref s.heap.objs.size, _, I1, rfl, ⟨_, x, rfl, I.hok.fresh (Nat.le_refl _), rfl, ?_⟩, ⟨⟨x', ?_⟩, ?_, hne⟩, ?_⟩
    · intro ys hy
      rw [I.tuple_inj hy hq]
      exact hx
    · have e1 : ((i + 1 : Nat) : Int) = (i : Int) + 1 := by omega
      rw [e1]
      exact he'
    · exact hs'.1.at fun o q => (sb.2 it (Ne.symm hne)).trans q
    · intro b hb
      have hb' : b < s.heap.objs.size := by
        rcases two hb with rfl | rfl
        · exact hel
        · exact hil
      rw [upd_ne (Nat.ne_of_lt hb')]
      exact (hf b hb).1
  · intro X hP hw hK hc i pins s σ H E I hf st hg
    subst hP hw hK
    obtain ⟨⟨old, he⟩, hit, hne⟩ := st
    obtain ⟨xs, hq, hx⟩ := hg
    obtain ⟨its, rv, p, hz⟩ := I.tuple hq
    obtain ⟨f0, f1, f2, f3, f4, f5⟩ := hf it (by simp)
    have hl := rv.length
    have hh : X.A.in1.in1.handled = none := I.ok.hd hc
    have hai : a ≠ it := by
      rintro rfl
      obtain ⟨o, ho, hcl, _⟩ := p
      obtain ⟨o', ho', hcl', _⟩ := hit
      rw [ho] at ho'
      obtain rfl := Option.some.inj ho'
      rw [hcl] at hcl'
      exact absurd hcl' (by decide)
    unfold pyNext
    have hTy : s.TypeIs (.ref e) "enumerate" := ⟨_, he, rfl⟩
    refine wpAny_bind (wpAny_attempt (wpAny_callSpecial?_slot (name := Str.ofString "__next__") hTy F.slot_enumerate_next
      (wpAny_call_entry F.slot_enumerate_next hTy F.entry_enumerate_next ?_ (F.args_enumerate_next_1 _))))
    show wpAny _ _ (field (.ref e) 2 >>= _) _ _ _
    refine wpAny_bind (wpAny_field he rfl (x := .ref it) rfl ?_)
    refine wpAny_bind (wpAny_nextOf_tuple_end hh hit p (by simp; omega) ?_)
    rintro h' x he' ⟨o, ho, hcl⟩
    refine wpAny_bind (wpAny_isInstance (T := "StopIteration") (b := true) ⟨o, ho, hcl⟩ isSubtype_stop (wpAny_pure ?_))
    exact ⟨rfl, I.turned (t' := s.toks) (fun b o hb q => he' b o hb q) f0 f1 f3 f4 f5⟩
  · intro A i s Q E st h
    obtain ⟨⟨_, he⟩, _⟩ := st
    exact wpAny_pyIter_enum he h
def iEnT (K : PySem.W.Frag) (ta : TA) : TI := fun σ H R => ta σ H fun vs H1 => ∃ a xs, vs = [.ref a] ∧ SqT K H1 a xs ∧ R (ItE K a) H1
theorem pi_enumT {X : Cx} {e : Expr} {ta : TA} {p pos tpos : Pos} {elts : List Expr} {kk : Nat} (hg : Gl X "enumerate")
    (hm : X.mg "enumerate" = none) (ha : PA X [e] ta) (hs : starEach [e] X.env = [(false, eval e X.env)] := by rfl) :
    PI X (.Tuple elts kk tpos) (.Call (.Name "enumerate" p) [e] [] pos) (iEnT X.K ta) := by
  constructor
  intro pins s σ H R I h
  refine Call_ (ld_blt I hg hm boot_enumerate (PyProof.Rows.callWith_type1 (thn (ha.run pos pins s σ H _ I h) ?_) hs rfl))
  rintro us s1 ⟨vs, H1, I1, r1, a, xs, rfl, hq, q⟩
  obtain ⟨u, rfl, rfl⟩ := vals1 r1
  obtain ⟨its, rv, p', hz⟩ := I1.tuple hq
  refine sg_call_enum p' ?_
  intro h' he hit hk
  refine wpAny_pyIter_enum he ?_
  have I2 : Inv X pins σ H1 { s1 with heap := h' } := I1.kept (t' := s1.toks) hk
  refine ⟨s1.heap.objs.size + 1, [s1.heap.objs.size + 1, s1.heap.objs.size], _, _, H1, rfl, I2,
    turn_enumT a (s1.heap.objs.size + 1) s1.heap.objs.size, ⟨⟨.none, he⟩, hit, Nat.succ_ne_self _⟩, ?_, q⟩
  intro b hb
  have hle : s1.heap.objs.size ≤ b := by
    have e' : b = s1.heap.objs.size + 1 ∨ b = s1.heap.objs.size := by simpa using hb
    rcases e' with rfl | rfl
    · exact Nat.le_succ _
    · exact Nat.le_refl _
  exact I1.fpOk hle (I1.hok.fresh hle)
end Sg
set_option Elab.async false
set_option linter.all false
set_option maxRecDepth 100000
set_option maxHeartbeats 4000000
namespace Sg
open PySem PySem.Spec PyProof.Rows L2
/-! ## [c for a in t for b in a for c in b], tuples all the way down -/
/-- slots that agree but for those of ws -/
def Ag (ws : List Nat) (σ σ' : L2.St) : Prop := σ'.length = σ.length ∧ ∀ j, j ∉ ws → σ'[j]? = σ[j]?
theorem Ag.refl (ws : List Nat) (σ : L2.St) : Ag ws σ σ := ⟨rfl, fun _ _ => rfl⟩
theorem Ag.trans {ws : List Nat} {a b c : L2.St} (h : Ag ws a b) (k : Ag ws b c) : Ag ws a c := ⟨k.1.trans h.1, fun j hj => (k.2 j hj).trans (h.2 j hj)⟩
theorem Ag.set {ws : List Nat} {σ : L2.St} {k : Nat} {v : Option V} (hk : k ∈ ws) : Ag ws σ (σ.set k v) := ⟨List.length_set, fun j hj => by
  rw [List.getElem?_set_ne]
  rintro rfl
  exact hj hk⟩
theorem Ag.mono {ws us : List Nat} {σ σ' : L2.St} (h : Ag ws σ σ') (k : ∀ j ∈ ws, j ∈ us) : Ag us σ σ' := ⟨h.1, fun j hj => h.2 j fun z => hj (k j z)⟩
/-- a turn of a loop of a comprehension without tests -/
def flatTurn (e : Expr) (d : Nat) (it D : Addr) (n : Str) (p pos : Pos) (bd : Sem Fin → Sem Fin) (env : Env) : Sem Fin :=
  standAt pos >>= fun _ => pyNext (.ref it) >>= fun r => match r with
    | none => pure (.done .next)
    | some v => letOwnedTupleGo (.Name n p) (.ref it) v >>= fun _ => assign (.Name n p) env v >>= fun _ =>
      bd (again (.compLoop e d (.ref it) (.ref D) env))
section
variable {Z : Cx} {elt : Expr} {gens : List Comprehension} {scope : Scope} {cpos p pos : Pos} {d k : Nat} {it D c : Addr} {n : Str} {bd : Sem Fin → Sem Fin}
variable {R : Result → Shared → Prop} {xs : List V} {pins : List (Addr × Obj)} {ws : List Nat}
theorem flat_loop (hxe : Z.xe = fun _ _ => False) (hcalm : Z.calm = true) (hN : Z.N.Nodup)
    (hturn : compTurn (.ListComp elt gens scope cpos) d (.ref it) (.ref D) Z.env = flatTurn (.ListComp elt gens scope cpos) d it D n p pos bd Z.env)
    (hk : Z.N[k]? = some n) (hloc : Loc Z.env.scope n) (hfn : Z.fn n = true ∨ Z.env.scope.names.lookup n = some .local) (hkw : k ∈ ws)
    (σ : L2.St) (G : Nat → Hp → Prop) (hG : ∀ i H, i ≤ xs.length → G i H → SqT Z.K H c xs) (hfp : ∀ H, H it = none → FpOk Z pins H it)
    (hbd : ∀ i x s σ' H, xs[i]? = some x → G i H → H it = none → Inv Z (pins ++ pinsAt [it] s.heap) σ' H s → σ'[k]? = some (some x) → Ag ws σ σ' →
      ∀ (kk : Sem Fin) (Qf : Fin → Shared → Prop) (Ef : Value → Shared → Prop),
        (∀ s' σ'' H', Inv Z (pins ++ pinsAt [it] s.heap) σ'' H' s' → Ag ws σ σ'' → G (i + 1) H' → wpAny (model Z.prog Z.w) Z.A kk Qf Ef s') → wpAny (model Z.prog Z.w) Z.A (bd kk) Qf Ef s)
    (hfin : ∀ s' σ' H', Inv Z pins σ' H' s' → Ag ws σ σ' → G xs.length H' → R (.ok .next) s')
    {s : Shared} {σ₀ : L2.St} {H₀ : Hp} (I₀ : Inv Z pins σ₀ H₀ s) (ag₀ : Ag ws σ σ₀) (g₀ : G 0 H₀) (n₀ : H₀ it = none) (st₀ : s.heap.IsTupleIter it c 0) :
    codeAny (model Z.prog Z.w) Z.A (.compLoop (.ListComp elt gens scope cpos) d (.ref it) (.ref D) Z.env) R s := by
  have T := turn_tuple (P := Z.prog) (w := Z.w) (K := Z.K) (tg := .Name n p) c it
  have hb1 : ∀ {H : Hp}, H it = none → ∀ b ∈ [it], FpOk Z pins H b := by
    intro H hn b hb
    rw [List.mem_singleton.mp hb]
    exact hfp H hn
  refine codeAny_loop rfl (fun m s' => ∃ i σ' H', Inv Z pins σ' H' s' ∧ Ag ws σ σ' ∧ G i H' ∧ H' it = none ∧ s'.heap.IsTupleIter it c i ∧ i ≤ xs.length ∧ m = xs.length - i) ?_ xs.length
    ⟨0, σ₀, H₀, I₀, ag₀, g₀, n₀, st₀, Nat.zero_le _, rfl⟩
  rintro m s1 ⟨i, σ1, H1, I1, ag1, g1, n1, st1, hi, rfl⟩
  show wpAny _ Z.A ((compTurn (.ListComp elt gens scope cpos) d (.ref it) (.ref D) Z.env).onRaise (fun x => do noteFrame x Z.env; theTreesLotGoes x)) _ _ s1
  refine wpAny_noted ?_
  rw [hturn]
  refine wpAny_bind (wpAny_standAt (wpAny_bind ?_))
  have hq := hG i H1 hi g1
  by_cases hlt : i < xs.length
  · have go := T.item Z rfl rfl rfl hcalm i pins s1 σ1 H1 (fun _ _ => False) I1 (hb1 n1) st1 ⟨xs, xs[i], hq, List.getElem?_eq_getElem hlt⟩
    refine thnF go ?_
    rintro r s2 ⟨u, rfl, h2⟩
    refine wpAny_bind (thnF h2 ?_)
    rintro _ s3 ⟨x, H3, I3, r3, ⟨eH, hy⟩, st3, n3⟩
    subst eH
    have hx : xs[i]? = some x := hy xs hq
    have n3' : H3 it = none := n3 it (List.mem_singleton.mpr rfl)
    have I3' := I3.pinned (hb1 n3') (T.obj _ _ st3)
    have ia := (pg_name (X := Z) (pos := p) hN hk hloc hfn).run _ s3 σ1 H3 x u (fun σ' H' => σ' = σ1.set k (some x) ∧ H' = H3) I3' r3 ⟨rfl, rfl⟩
    rw [hxe] at ia
    refine wpAny_bind (thnF ia ?_)
    rintro _ s4 ⟨σ4, H4, I4, rfl, rfl⟩
    obtain ⟨o, ho, hoc⟩ := T.obj _ _ st3 it (List.mem_singleton.mpr rfl)
    have pin4 := I4.pin (it, o) (List.mem_append_right _ (List.mem_append_right _ (mem_pinsAt (List.mem_singleton.mpr rfl) ho)))
    have ep : pinsAt [it] s3.heap = pinsAt [it] s4.heap := by
      unfold pinsAt
      rw [List.filterMap_cons, List.filterMap_cons, ho, pin4.1]
      rfl
    rw [ep] at I4
    have hσ4 : (σ1.set k (some x))[k]? = some (some x) := by
      have hkl : k < σ1.length := by rw [I1.len]; exact (List.getElem?_eq_some_iff.mp hk).1
      rw [List.getElem?_set_self hkl]
    refine hbd i x s4 _ _ hx g1 n3' I4 hσ4 (ag1.trans (Ag.set hkw)) _ _ _ ?_
    intro s5 σ5 H5 I5 ag5 g5
    have pin5 := I5.pin (it, o) (List.mem_append_right _ (List.mem_append_right _ (mem_pinsAt (List.mem_singleton.mpr rfl) pin4.1)))
    have st5 : s5.heap.IsTupleIter it c (i + 1) := T.keep _ _ _ st3 (by
      intro b hb o' e
      rw [List.mem_singleton.mp hb] at e ⊢
      rw [ho] at e
      rw [← Option.some.inj e]
      exact pin5.1)
    exact wpAny_pure ⟨rfl, xs.length - (i + 1), by omega, i + 1, σ5, H5, I5.unpinned, ag5, g5, pin5.2.1, st5, hlt, rfl⟩
  · have e : i = xs.length := by omega
    subst e
    have stop := T.done Z rfl rfl rfl hcalm xs.length pins s1 σ1 H1 (fun _ _ => False) I1 (hb1 n1) st1 ⟨xs, hq, Nat.le_refl _⟩
    refine thnF stop ?_
    rintro r s2 ⟨rfl, I2⟩
    exact wpAny_pure (hfin s2 σ1 H1 I2 ag1 g1)
end
/-! ### the three clauses -/
abbrev flatE (n1 n2 n3 : Str) (iter : Expr) (scope : Scope) (q1 q2 q3 a1 a2 a3 pos : Pos) : Expr :=
  .ListComp (.Name n3 a3) [⟨.Name n1 q1, iter, [], 0⟩, ⟨.Name n2 q2, .Name n1 a1, [], 0⟩, ⟨.Name n3 q3, .Name n2 a2, [], 0⟩] scope pos
section
variable {n1 n2 n3 : Str} {iter : Expr} {scope : Scope} {q1 q2 q3 a1 a2 a3 pos : Pos} {it D : Addr} {env : Env}
abbrev downBody (e i : Expr) (d : Nat) (D : Addr) (env : Env) (kk : Sem Fin) : Sem Fin := eval i env >>= fun x => standAt i.pos >>= fun _ =>
  foldedSetIterable i env x >>= fun x => holding [x] (pyIter x) >>= fun it' => runOwn (.compStart e d it' (.ref D) env) env >>= fun _ => kk
abbrev addBody (elt : Expr) (D : Addr) (env : Env) (kk : Sem Fin) : Sem Fin :=
  (eval elt env >>= fun x => call (.builtin "list.append") [.ref D, x] >>= fun _ => pure ()) >>= fun _ => kk
theorem flat_t0 : compTurn (flatE n1 n2 n3 iter scope q1 q2 q3 a1 a2 a3 pos) 0 (.ref it) (.ref D) env =
    flatTurn (flatE n1 n2 n3 iter scope q1 q2 q3 a1 a2 a3 pos) 0 it D n1 q1 iter.pos (downBody (flatE n1 n2 n3 iter scope q1 q2 q3 a1 a2 a3 pos) (.Name n1 a1) 1 D env) env := by rfl
theorem flat_t1 : compTurn (flatE n1 n2 n3 iter scope q1 q2 q3 a1 a2 a3 pos) 1 (.ref it) (.ref D) env =
    flatTurn (flatE n1 n2 n3 iter scope q1 q2 q3 a1 a2 a3 pos) 1 it D n2 q2 a1 (downBody (flatE n1 n2 n3 iter scope q1 q2 q3 a1 a2 a3 pos) (.Name n2 a2) 2 D env) env := by rfl
theorem flat_t2 : compTurn (flatE n1 n2 n3 iter scope q1 q2 q3 a1 a2 a3 pos) 2 (.ref it) (.ref D) env =
    flatTurn (flatE n1 n2 n3 iter scope q1 q2 q3 a1 a2 a3 pos) 2 it D n3 q3 a2 (addBody (.Name n3 a3) D env) env := by rfl
end
section
variable {prog : Program} {w : World} {A : Around} {R : Result → Shared → Prop} {s : Shared} {n1 n2 n3 : Str} {iter : Expr} {scope : Scope} {q1 q2 q3 a1 a2 a3 pos : Pos} {it acc : Value} {env : Env}
theorem flat_s1 (h0 : codeAny (model prog w) A (.compLoop (flatE n1 n2 n3 iter scope q1 q2 q3 a1 a2 a3 pos) 1 it acc env) R s)
    (h : wpAny (model prog w) A (pyIter it) (fun it' s' => codeAny (model prog w) A (.compLoop (flatE n1 n2 n3 iter scope q1 q2 q3 a1 a2 a3 pos) 1 it' acc env) R s') (notedBy (model prog w) A env fun x s' => R (.error x) s') s) :
    codeAny (model prog w) A (.compStart (flatE n1 n2 n3 iter scope q1 q2 q3 a1 a2 a3 pos) 1 it acc env) R s := by
  apply codeAny_of_tree
  show wpAny _ _ ((compStart (flatE n1 n2 n3 iter scope q1 q2 q3 a1 a2 a3 pos) 1 it acc env).onRaise (fun x => do noteFrame x env; standAt theWindowsPlace)) _ _ s
  apply wpAny_notedAt
  unfold compStart
  show wpAny _ _ (ask >>= _) _ _ s
  refine wpAny_bind (wpAny_askSetting (wpAny_ite ?_))
  split
  · first | exact wpAny_pure (And.intro rfl h0) | exact wpAny_bind (wpAny_pure (wpAny_pure (And.intro rfl h0)))
  · refine wpAny_bind (wpAny_rule ?_)
    show wpAny _ _ (standAt a1 >>= _) _ _ s
    exact wpAny_bind (wpAny_standAt (wpAny_bind (wpAny_mono h (fun it' s' h' => wpAny_pure (And.intro rfl h')) fun _ _ x => x)))
theorem flat_s2 (h0 : codeAny (model prog w) A (.compLoop (flatE n1 n2 n3 iter scope q1 q2 q3 a1 a2 a3 pos) 2 it acc env) R s)
    (h : wpAny (model prog w) A (pyIter it) (fun it' s' => codeAny (model prog w) A (.compLoop (flatE n1 n2 n3 iter scope q1 q2 q3 a1 a2 a3 pos) 2 it' acc env) R s') (notedBy (model prog w) A env fun x s' => R (.error x) s') s) :
    codeAny (model prog w) A (.compStart (flatE n1 n2 n3 iter scope q1 q2 q3 a1 a2 a3 pos) 2 it acc env) R s := by
  apply codeAny_of_tree
  show wpAny _ _ ((compStart (flatE n1 n2 n3 iter scope q1 q2 q3 a1 a2 a3 pos) 2 it acc env).onRaise (fun x => do noteFrame x env; standAt theWindowsPlace)) _ _ s
  apply wpAny_notedAt
  unfold compStart
  show wpAny _ _ (ask >>= _) _ _ s
  refine wpAny_bind (wpAny_askSetting (wpAny_ite ?_))
  split
  · first | exact wpAny_pure (And.intro rfl h0) | exact wpAny_bind (wpAny_pure (wpAny_pure (And.intro rfl h0)))
  · refine wpAny_bind (wpAny_rule ?_)
    show wpAny _ _ (standAt a2 >>= _) _ _ s
    exact wpAny_bind (wpAny_standAt (wpAny_bind (wpAny_mono h (fun it' s' h' => wpAny_pure (And.intro rfl h')) fun _ _ x => x)))
end
end Sg
set_option Elab.async false
set_option linter.all false
set_option maxRecDepth 100000
set_option maxHeartbeats 4000000
namespace Sg
open PySem PySem.Spec PyProof.Rows L2
/-- cells are tuples; xs are all their items -/
inductive FlatL (K : PySem.W.Frag) (H : Hp) : List V → List V → Prop
  | nil : FlatL K H [] []
  | cons {a : Addr} {ys cells xs : List V} : SqT K H a ys → FlatL K H cells xs → FlatL K H (.ref a :: cells) (ys ++ xs)
/-- rows are tuples of tuples; xs are all the items of these -/
inductive FlatR (K : PySem.W.Frag) (H : Hp) : List V → List V → Prop
  | nil : FlatR K H [] []
  | cons {a : Addr} {cells ys rows xs : List V} : SqT K H a cells → FlatL K H cells ys → FlatR K H rows xs → FlatR K H (.ref a :: rows) (ys ++ xs)
section
variable {K : PySem.W.Frag} {H : Hp}
theorem FlatL.snoc {a : Addr} {ys : List V} (h : SqT K H a ys) : ∀ {cells xs : List V}, FlatL K H cells xs → FlatL K H (cells ++ [.ref a]) (xs ++ ys)
  | _, _, .nil => by have z := FlatL.cons h .nil; rwa [List.append_nil] at z
  | _, _, .cons h1 r => by rw [List.append_assoc]; exact .cons h1 (FlatL.snoc h r)
theorem FlatR.snoc {a : Addr} {cells ys : List V} (h : SqT K H a cells) (hl : FlatL K H cells ys) : ∀ {rows xs : List V}, FlatR K H rows xs → FlatR K H (rows ++ [.ref a]) (xs ++ ys)
  | _, _, .nil => by have z := FlatR.cons h hl .nil; rwa [List.append_nil] at z
  | _, _, .cons h1 h2 r => by rw [List.append_assoc]; exact .cons h1 h2 (FlatR.snoc h hl r)
theorem FlatL.same {H' : Hp} (e : Same H H') : ∀ {cells xs : List V}, FlatL K H cells xs → FlatL K H' cells xs
  | _, _, .nil => .nil
  | _, _, .cons h r => .cons (h.imp (fun z => z.imp (e _ _) fun ⟨o, z⟩ => ⟨o, e _ _ z⟩) id) (FlatL.same e r)
theorem FlatR.same {H' : Hp} (e : Same H H') : ∀ {rows xs : List V}, FlatR K H rows xs → FlatR K H' rows xs
  | _, _, .nil => .nil
  | _, _, .cons h l r => .cons (h.imp (fun z => z.imp (e _ _) fun ⟨o, z⟩ => ⟨o, e _ _ z⟩) id) (FlatL.same e l) (FlatR.same e r)
theorem sqT_new {D a : Addr} {o : HO} {ys : List V} (n : H D = none) (h : SqT K H a ys) : SqT K (upd H D o) a ys :=
  h.imp (fun z => z.imp (fun z => by rw [upd_ne (ne_of_none z n)]; exact z) fun ⟨u, z⟩ => ⟨u, by rw [upd_ne (ne_of_none z n)]; exact z⟩) id
end
section
variable {Z : Cx} {n1 n2 n3 : Str} {iter : Expr} {scope : Scope} {q1 q2 q3 a1 a2 a3 pos : Pos} {k1 k2 k3 : Nat}
/-- what the block says of its names -/
structure FlatN (Z : Cx) (n1 n2 n3 : Str) (k1 k2 k3 : Nat) : Prop where
  xe : Z.xe = fun _ _ => False
  calm : Z.calm = true
  nd : Z.N.Nodup
  h1 : Z.N[k1]? = some n1
  h2 : Z.N[k2]? = some n2
  h3 : Z.N[k3]? = some n3
  l1 : Z.env.scope.names.lookup n1 = some .local
  l2 : Z.env.scope.names.lookup n2 = some .local
  l3 : Z.env.scope.names.lookup n3 = some .local
  d1 : (n1 == ("__debug__" : Str)) = false
  d2 : (n2 == ("__debug__" : Str)) = false
  d3 : (n3 == ("__debug__" : Str)) = false
  c1 : (n1 == ("__classdict__" : Str)) = false
  c2 : (n2 == ("__classdict__" : Str)) = false
  c3 : (n3 == ("__classdict__" : Str)) = false
/-- the innermost loop -/
theorem flat_in (B : FlatN Z n1 n2 n3 k1 k2 k3) {pins : List (Addr × Obj)} {σ : L2.St} {H : Hp} {s : Shared} {R : Result → Shared → Prop} {it D c : Addr} {acc xs : List V}
    (hn : H D = none) (hc : SqT Z.K H c xs) (hz : acc.length + xs.length ≤ 1000000) (I : Inv Z pins σ (upd H D (.lst acc)) s) (st : s.heap.IsTupleIter it c 0) (hit : (upd H D (.lst acc)) it = none)
    (hfp : ∀ H, H it = none → FpOk Z pins H it)
    (fin : ∀ s' σ', Inv Z pins σ' (upd H D (.lst (acc ++ xs))) s' → Ag [k3] σ σ' → R (.ok .next) s') :
    codeAny (model Z.prog Z.w) Z.A (.compLoop (flatE n1 n2 n3 iter scope q1 q2 q3 a1 a2 a3 pos) 2 (.ref it) (.ref D) Z.env) R s := by
  refine flat_loop B.xe B.calm B.nd flat_t2 B.h3 (.inl B.l3) (.inr B.l3) (List.mem_singleton.mpr rfl) σ (fun i H' => H' = upd H D (.lst (acc ++ xs.take i)))
    (fun i H' _ e => by rw [e]; exact sqT_new hn hc) hfp (fun i x s1 σ1 H1 hx e hi I1 hk ag kk Qf Ef cont => ?_) (fun s' σ' H' I' ag e => ?_) I (Ag.refl _ _) (by rw [List.take_zero, List.append_nil]) hit st
  · subst e
    have ev := (pe_var (pos := a3) (X := Z) B.h3 (.inl B.l3) B.d3 B.c3).run _ s1 σ1 _ (fun v H2 => v = x ∧ H2 = upd H D (.lst (acc ++ xs.take i))) I1 ⟨x, hk, rfl, rfl⟩
    rw [B.xe] at ev
    refine wpAny_bind (wpAny_bind (thnF ev ?_))
    rintro u s2 ⟨v, H2, I2, r2, rfl, rfl⟩
    have lt : (acc ++ xs.take i).length < sizeLine := by
      have h4 : sizeLine = 16777216 := sizeLine_eq
      rw [List.length_append, List.length_take]
      have := Nat.min_le_right i xs.length
      omega
    refine wpAny_bind (app_ok (X := Z) I2 upd_same lt r2 fun s3 I3 => wpAny_pure ?_)
    rw [upd_upd] at I3
    refine cont s3 σ1 _ I3 ag ?_
    rw [List.take_add_one, hx, List.append_assoc]
    rfl
  · subst e
    rw [List.take_length] at I'
    exact fin s' σ' I' ag
/-- down a level: name, iterator, loop -/
theorem flat_down {pins : List (Addr × Obj)} {σ : L2.St} {H : Hp} {s : Shared} {c : Addr} {ys : List V} {nn : Str} {aa : Pos} {e : Expr} {d k : Nat} {D : Addr} {kk : Sem Fin} {Qf : Fin → Shared → Prop} {Ef : Value → Shared → Prop}
    (hxe : Z.xe = fun _ _ => False) (hN : Z.N[k]? = some nn) (hl : Z.env.scope.names.lookup nn = some .local) (hd : (nn == ("__debug__" : Str)) = false) (hcd : (nn == ("__classdict__" : Str)) = false)
    (I : Inv Z pins σ H s) (hk : σ[k]? = some (some (.ref c))) (hq : SqT Z.K H c ys)
    (go : ∀ s1 it, Inv Z pins σ H s1 → H it = none → (∀ H, H it = none → FpOk Z pins H it) → s1.heap.IsTupleIter it c 0 →
      codeAny (model Z.prog Z.w) Z.A (.compStart e d (.ref it) (.ref D) Z.env) (fun r s' => r = .ok .next ∧ wpAny (model Z.prog Z.w) Z.A kk Qf Ef s') s1) :
    wpAny (model Z.prog Z.w) Z.A (downBody e (.Name nn aa) d D Z.env kk) Qf Ef s := by
  have ev := (pe_var (pos := aa) (X := Z) hN (.inl hl) hd hcd).run _ s σ H (fun v H2 => v = .ref c ∧ H2 = H) I ⟨.ref c, hk, rfl, rfl⟩
  rw [hxe] at ev
  refine wpAny_bind (thnF ev ?_)
  rintro u s2 ⟨v, H2, I2, r2, rfl, rfl⟩
  obtain rfl : u = Value.ref c := r2
  refine wpAny_bind (wpAny_standAt (wpAny_bind (wpAny_of_eq (a := Value.ref c) rfl (wpAny_bind (wpAny_holding ?_)))))
  obtain ⟨its, rv, p, hz⟩ := I2.tuple hq
  refine wpAny_pyIter_tuple (show s2.heap.IsTuple c its.toArray from p) ?_
  refine wpAny_bind (wpAny_runOwn ?_)
  rw [Around.mark_none]
  have I3 : Inv Z pins σ H2 { s2 with heap := s2.heap.push { cls := .type "tuple_iterator", data := .fields #[.ref c, .int 0 0] } } := I2.kept (t' := s2.toks) fun b o e => Heap.get?_push_of_some _ e
  refine codeAny_mono (go _ s2.heap.objs.size I3 (I2.hok.fresh (Nat.le_refl _)) (fun H' h => I2.fpOk (Nat.le_refl _) h) ⟨_, Heap.get?_push_size _ rfl, rfl, rfl⟩) ?_
  rintro r s' ⟨rfl, hkk⟩
  exact hkk
/-- the middle loop -/
theorem flat_mid (B : FlatN Z n1 n2 n3 k1 k2 k3) {pins : List (Addr × Obj)} {σ : L2.St} {H : Hp} {s : Shared} {R : Result → Shared → Prop} {it D c : Addr} {acc cells xs : List V}
    (hn : H D = none) (hc : SqT Z.K H c cells) (hf : FlatL Z.K H cells xs) (hz : acc.length + xs.length ≤ 1000000) (I : Inv Z pins σ (upd H D (.lst acc)) s) (st : s.heap.IsTupleIter it c 0) (hit : (upd H D (.lst acc)) it = none)
    (hfp : ∀ H, H it = none → FpOk Z pins H it)
    (fin : ∀ s' σ', Inv Z pins σ' (upd H D (.lst (acc ++ xs))) s' → Ag [k2, k3] σ σ' → R (.ok .next) s') :
    codeAny (model Z.prog Z.w) Z.A (.compLoop (flatE n1 n2 n3 iter scope q1 q2 q3 a1 a2 a3 pos) 1 (.ref it) (.ref D) Z.env) R s := by
  refine flat_loop (ws := [k2, k3]) B.xe B.calm B.nd flat_t1 B.h2 (.inl B.l2) (.inr B.l2) (List.mem_cons_self) σ
    (fun i H' => ∃ pre suf ys zs, cells = pre ++ suf ∧ pre.length = i ∧ FlatL Z.K H pre ys ∧ FlatL Z.K H suf zs ∧ xs = ys ++ zs ∧ H' = upd H D (.lst (acc ++ ys)))
    (fun i H' _ ⟨_, _, _, _, _, _, _, _, _, e⟩ => by rw [e]; exact sqT_new hn hc) hfp (fun i x s1 σ1 H1 hx e hi I1 hk ag kk Qf Ef cont => ?_) (fun s' σ' H' I' ag e => ?_) I (Ag.refl _ _)
    ⟨[], cells, [], xs, rfl, rfl, .nil, hf, rfl, by rw [List.append_nil]⟩ hit st
  · obtain ⟨pre, suf, ys, zs, ec, el, f1, f2, ex, rfl⟩ := e
    cases f2 with
    | nil =>
      rw [ec, List.append_nil, ← el, List.getElem?_eq_none (Nat.le_refl _)] at hx
      exact nomatch hx
    | @cons b bs suf' zs' hb r =>
      have xb : x = .ref b := by
        rw [ec, ← el, List.getElem?_append_right (Nat.le_refl _), Nat.sub_self] at hx
        exact (Option.some.inj hx).symm
      subst xb
      have zl : acc.length + ys.length + bs.length ≤ 1000000 := by
        rw [ex, List.length_append, List.length_append] at hz
        omega
      refine flat_down B.xe B.h2 B.l2 B.d2 B.c2 I1 hk (sqT_new hn hb) fun s2 it2 I2 n2' fp2 st2 => ?_
      have loop : codeAny (model Z.prog Z.w) Z.A (.compLoop (flatE n1 n2 n3 iter scope q1 q2 q3 a1 a2 a3 pos) 2 (.ref it2) (.ref D) Z.env) (fun r s' => r = .ok .next ∧ wpAny (model Z.prog Z.w) Z.A kk Qf Ef s') s2 := by
        refine flat_in B hn hb (by rw [List.length_append]; exact zl) I2 st2 n2' fp2 fun s3 σ3 I3 ag3 => ⟨rfl, ?_⟩
        refine cont s3 σ3 _ I3 (ag.trans (ag3.mono (by simp))) ⟨pre ++ [.ref b], suf', ys ++ bs, zs', by rw [ec, List.append_assoc]; rfl, by rw [List.length_append, el]; rfl, FlatL.snoc hb f1, r, by rw [ex, List.append_assoc], by rw [List.append_assoc]⟩
      exact flat_s2 loop (wpAny_pyIter_tupleiter st2 loop)
  · obtain ⟨pre, suf, ys, zs, ec, el, f1, f2, ex, rfl⟩ := e
    have es : suf = [] := by
      have z := congrArg List.length ec
      rw [List.length_append, el] at z
      exact List.eq_nil_of_length_eq_zero (by omega)
    subst es
    cases f2
    rw [List.append_nil] at ex
    subst ex
    exact fin s' σ' I' ag
/-- the outer loop -/
theorem flat_out (B : FlatN Z n1 n2 n3 k1 k2 k3) {σ : L2.St} {H : Hp} {s : Shared} {R : Result → Shared → Prop} {it D c : Addr} {rows xs : List V}
    (hn : H D = none) (hc : SqT Z.K H c rows) (hf : FlatR Z.K H rows xs) (hz : xs.length ≤ 1000000) (I : Inv Z [] σ (upd H D (.lst [])) s) (st : s.heap.IsTupleIter it c 0) (hit : (upd H D (.lst [])) it = none)
    (hfp : ∀ H, H it = none → FpOk Z [] H it)
    (fin : ∀ s' σ', Inv Z [] σ' (upd H D (.lst xs)) s' → R (.ok .next) s') :
    codeAny (model Z.prog Z.w) Z.A (.compLoop (flatE n1 n2 n3 iter scope q1 q2 q3 a1 a2 a3 pos) 0 (.ref it) (.ref D) Z.env) R s := by
  refine flat_loop (ws := [k1, k2, k3]) B.xe B.calm B.nd flat_t0 B.h1 (.inl B.l1) (.inr B.l1) (List.mem_cons_self) σ
    (fun i H' => ∃ pre suf ys zs, rows = pre ++ suf ∧ pre.length = i ∧ FlatR Z.K H pre ys ∧ FlatR Z.K H suf zs ∧ xs = ys ++ zs ∧ H' = upd H D (.lst ys))
    (fun i H' _ ⟨_, _, _, _, _, _, _, _, _, e⟩ => by rw [e]; exact sqT_new hn hc) hfp (fun i x s1 σ1 H1 hx e hi I1 hk ag kk Qf Ef cont => ?_) (fun s' σ' H' I' ag e => ?_) I (Ag.refl _ _)
    ⟨[], rows, [], xs, rfl, rfl, .nil, hf, rfl, rfl⟩ hit st
  · obtain ⟨pre, suf, ys, zs, ec, el, f1, f2, ex, rfl⟩ := e
    cases f2 with
    | nil =>
      rw [ec, List.append_nil, ← el, List.getElem?_eq_none (Nat.le_refl _)] at hx
      exact nomatch hx
    | @cons b bcells bs suf' zs' hb hbl r =>
      have xb : x = .ref b := by
        rw [ec, ← el, List.getElem?_append_right (Nat.le_refl _), Nat.sub_self] at hx
        exact (Option.some.inj hx).symm
      subst xb
      have zl : ys.length + bs.length ≤ 1000000 := by
        rw [ex, List.length_append, List.length_append] at hz
        omega
      refine flat_down B.xe B.h1 B.l1 B.d1 B.c1 I1 hk (sqT_new hn hb) fun s2 it2 I2 n2' fp2 st2 => ?_
      have loop : codeAny (model Z.prog Z.w) Z.A (.compLoop (flatE n1 n2 n3 iter scope q1 q2 q3 a1 a2 a3 pos) 1 (.ref it2) (.ref D) Z.env) (fun r s' => r = .ok .next ∧ wpAny (model Z.prog Z.w) Z.A kk Qf Ef s') s2 := by
        refine flat_mid B hn hb hbl zl I2 st2 n2' fp2 fun s3 σ3 I3 ag3 => ⟨rfl, ?_⟩
        refine cont s3 σ3 _ I3 (ag.trans (ag3.mono (by simp))) ⟨pre ++ [.ref b], suf', ys ++ bs, zs', by rw [ec, List.append_assoc]; rfl, by rw [List.length_append, el]; rfl, FlatR.snoc hb hbl f1, r, by rw [ex, List.append_assoc], rfl⟩
      exact flat_s1 loop (wpAny_pyIter_tupleiter st2 loop)
  · obtain ⟨pre, suf, ys, zs, ec, el, f1, f2, ex, rfl⟩ := e
    have es : suf = [] := by
      have z := congrArg List.length ec
      rw [List.length_append, el] at z
      exact List.eq_nil_of_length_eq_zero (by omega)
    subst es
    cases f2
    rw [List.append_nil] at ex
    subst ex
    exact fin s' σ' I'
end
end Sg
set_option Elab.async false
set_option linter.all false
set_option maxRecDepth 100000
set_option maxHeartbeats 4000000
namespace Sg
open PySem PySem.Spec PyProof.Rows L2
/-- [c for a in e for b in a for c in b]: e a tuple of tuples of tuples -/
def tFlat (K : PySem.W.Frag) (te : TE) : TE := fun σ H Q => te σ H fun v H1 => ∃ t rows xs, v = .ref t ∧ SqT K H1 t rows ∧ FlatR K H1 rows xs ∧ xs.length ≤ 1000000 ∧
  ∀ D, H1 D = none → Q (.ref D) (upd H1 D (.lst xs))
section
variable {X : Cx} {n1 n2 n3 : Str} {iter : Expr} {scope : Scope} {q1 q2 q3 a1 a2 a3 pos : Pos} {k1 k2 k3 : Nat} {own : List (Str × Nat)} {te : TE}
theorem pe_flat (hc : X.calm = true) (hN : X.N.Nodup) (hi : PE X iter te) (ok : BlkOk X.N X.env.scope scope own)
    (h1 : X.N[k1]? = some n1) (h2 : X.N[k2]? = some n2) (h3 : X.N[k3]? = some n3)
    (l1 : ∀ (C : Addr) (cl : List (Str × Addr)), (compEnvC scope cl C X.env).scope.names.lookup n1 = some .local)
    (l2 : ∀ (C : Addr) (cl : List (Str × Addr)), (compEnvC scope cl C X.env).scope.names.lookup n2 = some .local)
    (l3 : ∀ (C : Addr) (cl : List (Str × Addr)), (compEnvC scope cl C X.env).scope.names.lookup n3 = some .local)
    (dd : ((n1 == ("__debug__" : Str)) || (n2 == ("__debug__" : Str)) || (n3 == ("__debug__" : Str)) || (n1 == ("__classdict__" : Str)) || (n2 == ("__classdict__" : Str)) || (n3 == ("__classdict__" : Str))) = false := by decide)
    (hs : ∀ x, foldedSetIterable iter X.env x = pure x := by intro _; rfl) :
    PE X (flatE n1 n2 n3 iter scope q1 q2 q3 a1 a2 a3 pos) (tFlat X.K te) := by
  simp only [Bool.or_eq_false_iff] at dd
  obtain ⟨⟨⟨⟨⟨d1, d2⟩, d3⟩, c1⟩, c2⟩, c3⟩ := dd
  constructor
  intro pins s σ H Q I h
  rw [eval_ListComp]
  have hfree : ∀ y ∈ scope.names, y.2 = .free → ∃ c, X.env.cells.lookup y.1 = some c := by
    intro y hy e
    cases ok.free y hy e with
    | inl k => exact I.ok.has _ (.inl k)
    | inr k => exact I.ok.has _ (.inr k)
  refine wpAny_comprehension_free (use := none) rfl hs (closure_ok hfree) ok.kind (fun y hy e => by rw [ok.uniq y hy, e]) (thn (hi.run pins s σ H _ I h) ?_)
  rintro xv s1 ⟨v, H1, I1, r1, t, rows, xs, rfl, hq, hf, hz, q⟩
  obtain rfl : xv = Value.ref t := r1
  obtain ⟨its, rv, p, hzz⟩ := I1.tuple hq
  refine wpAny_pyIter_tuple (show s1.heap.IsTuple t its.toArray from p) ?_
  generalize hs2 : ({ s1 with heap := s1.heap.push { cls := .type "tuple_iterator", data := .fields #[.ref t, .int 0 0] } } : Shared) = s2
  have I2 : Inv X pins σ H1 s2 := by
    rw [← hs2]
    exact I1.kept (t' := s1.toks) fun b o e => Heap.get?_push_of_some _ e
  generalize hit : s1.heap.objs.size = it
  have st2 : s2.heap.IsTupleIter it t 0 := by
    rw [← hs2, ← hit]
    exact ⟨_, Heap.get?_push_size _ rfl, rfl, rfl⟩
  have nn2 : H1 it = none := I1.hok.fresh (Nat.le_of_eq hit)
  have lt2 : it < s2.heap.objs.size := by
    obtain ⟨_, e, _⟩ := st2
    exact Heap.lt_size e
  have f2 : ∀ H', H' it = none → FpOk X pins H' it := fun H' hn => I1.fpOk (Nat.le_of_eq hit) hn
  refine wpAny_newObj_type (newEnv_comp ?_) (by show 0 ≤ sizeLine; decide)
  generalize hD : s2.heap.objs.size = D
  have hDn : H1 D = none := I2.hok.fresh (Nat.le_of_eq hD)
  generalize hs3 : ({ s2 with heap := s2.heap.push { cls := .type "list", data := .seq ([] : List Value).toArray } } : Shared) = s3
  have I3 : Inv X pins σ (upd H1 D (.lst [])) s3 := by
    rw [← hs3]
    refine I2.laid (t' := s2.toks) (fun b o e => Heap.get?_push_of_some _ e) (Nat.le_of_eq hD) ⟨Nat.zero_le _, [], 0, .nil, ?_⟩
    rw [← hD]
    exact Heap.get?_push_size _ rfl
  have k3' : ∀ b o, s2.heap.get? b = some o → s3.heap.get? b = some o := by
    intro b o e
    rw [← hs3]
    exact Heap.get?_push_of_some _ e
  have st3 : s3.heap.IsTupleIter it t 0 := st2.at fun o e => k3' it o e
  have lt3 : it < s3.heap.objs.size := by
    obtain ⟨_, e, _⟩ := st3
    exact Heap.lt_size e
  have nit : (upd H1 D (.lst [])) it = none := by
    rw [upd_ne (by rw [← hD]; exact Nat.ne_of_lt lt2)]
    exact nn2
  have I4 := block_start (fp := [it]) I3 ok hN (by
    intro b hb
    rw [List.mem_singleton.mp hb]
    exact ⟨f2 _ nit, lt3⟩)
  show codeAny _ _ (.compStart (flatE n1 n2 n3 iter scope q1 q2 q3 a1 a2 a3 pos) 0 (.ref it) (.ref D) (compEnvC scope (cellsFrom (s3.heap.objs.size + 1) scope.names (cloFrom X.env.cells scope.names [])) s3.heap.objs.size X.env))
    (compPost (model X.prog X.w) X.A X.xe none (EP X pins σ Q) (.ref D) s3.heap.objs.size) { s3 with heap := pushCells (s3.heap.push { cls := .type "dict", data := .dict #[] }) scope.names }
  have hl1 := l1 s3.heap.objs.size (cellsFrom (s3.heap.objs.size + 1) scope.names (cloFrom X.env.cells scope.names []))
  have hl2 := l2 s3.heap.objs.size (cellsFrom (s3.heap.objs.size + 1) scope.names (cloFrom X.env.cells scope.names []))
  have hl3 := l3 s3.heap.objs.size (cellsFrom (s3.heap.objs.size + 1) scope.names (cloFrom X.env.cells scope.names []))
  have cL : (compEnvC scope (cellsFrom (s3.heap.objs.size + 1) scope.names (cloFrom X.env.cells scope.names [])) s3.heap.objs.size X.env).locals = s3.heap.objs.size := rfl
  generalize compEnvC scope (cellsFrom (s3.heap.objs.size + 1) scope.names (cloFrom X.env.cells scope.names [])) s3.heap.objs.size X.env = ce at I4 hl1 hl2 hl3 cL ⊢
  have st4 : (pushCells (s3.heap.push { cls := .type "dict", data := .dict #[] }) scope.names).IsTupleIter it t 0 :=
    st3.at fun o e => pushCells_keeps _ _ _ _ (Heap.get?_push_of_some _ e)
  generalize hs4 : ({ s3 with heap := pushCells (s3.heap.push { cls := .type "dict", data := .dict #[] }) scope.names } : Shared) = s4 at I4 ⊢
  have st4' : s4.heap.IsTupleIter it t 0 := by rw [← hs4]; exact st4
  have B : FlatN (X.blk s3 (upd H1 D (.lst [])) scope ce [it]) n1 n2 n3 k1 k2 k3 := ⟨rfl, hc, hN, h1, h2, h3, hl1, hl2, hl3, d1, d2, d3, c1, c2, c3⟩
  have fpZ : ∀ H', H' it = none → FpOk (X.blk s3 (upd H1 D (.lst [])) scope ce [it]) [] H' it := by
    intro H' hn
    refine ⟨hn, (I4.ok.exf it (List.mem_singleton.mpr rfl)).1, I4.ok.exfs it (List.mem_singleton.mpr rfl), .inl (List.mem_singleton.mpr rfl), (I4.ok.exf it (List.mem_singleton.mpr rfl)).2, ?_⟩
    intro p hp
    have hp' : p ∈ ([] : List (Addr × Obj)) ++ [] := hp
    exact nomatch hp'
  have loop : codeAny (model X.prog X.w) X.A (.compLoop (flatE n1 n2 n3 iter scope q1 q2 q3 a1 a2 a3 pos) 0 (.ref it) (.ref D) ce)
      (compPost (model X.prog X.w) X.A X.xe none (EP X pins σ Q) (.ref D) s3.heap.objs.size) s4 := by
    refine flat_out B hDn hq hf hz I4 st4' nit fpZ ?_
    intro s' σ' I5
    have I6 : Inv X pins σ (upd H1 D (.lst xs)) s' := by
      refine I3.call' (ch := [it]) I5.os I5.base I5.hok I5.bare ?_
      intro b hb
      rw [List.mem_singleton.mp hb]
      obtain ⟨_, g1, g2, g3, g4, g5⟩ := f2 _ nit
      exact ⟨g3, g1, g4, g5⟩
    have nC : (upd H1 D (.lst xs)) s3.heap.objs.size = none := by
      have z : (upd H1 D (.lst xs)) ce.locals = none := I5.free
      rw [cL] at z
      exact z
    obtain ⟨m, hn, _⟩ := I5.loc
    have hn' : s'.heap.Ns ce.locals m := hn
    rw [cL] at hn'
    refine ⟨m, hn', ?_⟩
    intro h'' sb
    obtain ⟨f0, f1, f2', f3, f4, f5⟩ := I3.fpOk (Nat.le_refl _) nC
    exact ⟨.ref D, _, I6.turned (t' := s'.toks) (fun b o hb e => (sb.2 b hb).trans e) f0 f1 f3 f4 f5, rfl, q D hDn⟩
  exact codeAny_compStart_list loop (wpAny_pyIter_tupleiter st4' loop)
end
end Sg
set_option Elab.async false
set_option linter.all false
set_option maxRecDepth 100000
set_option maxHeartbeats 4000000
namespace Sg
open PySem PySem.Spec PyProof.Rows L2
/-! ## max with a default -/
section
variable {X : Cx}
theorem cr_maxD (hc : X.calm = true) {j : Nat} (hr : Room j X.A) : CallRK X (.builtin "max") ["default"] (fun vs zs H Q => ∃ (a : Addr) (ns : List Int) (d : Int), vs = [.ref a] ∧ zs = [.int d] ∧ SqL X.K H a (ns.map V.int) ∧
    ∀ m : Int, (ns = [] → m = d) → (ns ≠ [] → m ∈ ns ∧ ∀ x ∈ ns, x ≤ m) → Q (.int m) H) := by
  intro pins s σ H xs zs us ws Q I r rz h
  obtain ⟨a, ns, d, rfl, rfl, hs, q⟩ := h
  obtain ⟨u, rfl, rfl⟩ := vals1 r
  obtain ⟨dv, rfl, td, rfl⟩ := vals1 rz
  obtain ⟨its, rv, hl, hzz⟩ := I.list hs
  have dp : DpAll X.K H (ns.map V.int) (ns.map PyData.int) := by
    clear hs q rv hl hzz
    induction ns with
    | nil => exact .nil
    | cons x r ih => exact .cons (.int x) ih
  obtain ⟨as, rd⟩ := Dp.readsAll I (ns.map PyData.int) _ its dp rv
  have al : PySem.W.AlikeAll (ns.map PyData.int) := by
    constructor
    · intro x hx y hy
      obtain ⟨i, _, rfl⟩ := List.mem_map.mp hx
      obtain ⟨j, _, rfl⟩ := List.mem_map.mp hy
      rfl
    · intro x hx z
      obtain ⟨i, _, rfl⟩ := List.mem_map.mp hx
      exact nomatch z
  have dep : PyData.depthAll (ns.map PyData.int) = 0 := by
    clear hs q rv hl rd al dp hzz
    induction ns with
    | nil => rfl
    | cons x r ih =>
      show max (PyData.depth (.int x)) (PyData.depthAll (r.map PyData.int)) = 0
      rw [ih]; rfl
  have hu := hr.units
  refine PySem.W.max_list_default (I.ok.hd hc) hl.isList (by simpa using rd) al (by rw [dep]; omega) (fun e h' tk hk => ?_) (fun y ys i v h' tk bs e hv hrd hk => ?_)
  · exact ⟨.int d, H, I.kept hk, ⟨_, rfl⟩, q d (fun _ => rfl) (fun z => absurd (List.map_eq_nil_iff.mp e) z)⟩
  · cases ns with
    | nil => exact nomatch e
    | cons n ns' =>
      obtain ⟨e1, e2⟩ := List.cons.inj e
      subst e1 e2
      rw [PySem.W.maxD_ints] at hrd
      cases hrd
      refine ⟨.int _, H, I.kept hk, ⟨_, rfl⟩, q _ (fun z => nomatch z) (fun _ => ?_)⟩
      have key : ∀ (l : List Int) (a : Int), (l.foldl max a = a ∨ l.foldl max a ∈ l) ∧ a ≤ l.foldl max a ∧ ∀ x ∈ l, x ≤ l.foldl max a := by
        intro l
        induction l with
        | nil => intro a; exact ⟨.inl rfl, Int.le_refl _, fun x hx => nomatch hx⟩
        | cons b l ih =>
          intro a
          obtain ⟨g1, g2, g3⟩ := ih (max a b)
          refine ⟨?_, by show a ≤ l.foldl max (max a b); omega, fun x hx => ?_⟩
          · show l.foldl max (max a b) = a ∨ l.foldl max (max a b) ∈ b :: l
            rcases g1 with g | g
            · rcases Int.le_total a b with z | z
              · right; rw [g, Int.max_eq_right z]; exact List.mem_cons_self
              · left; rw [g, Int.max_eq_left z]
            · exact .inr (List.mem_cons_of_mem _ g)
          · show x ≤ l.foldl max (max a b)
            rcases List.mem_cons.mp hx with rfl | z
            · omega
            · exact g3 x z
      obtain ⟨g1, g2, g3⟩ := key ns' n
      refine ⟨?_, fun x hx => ?_⟩
      · rcases g1 with g | g
        · rw [g]; exact List.mem_cons_self
        · exact List.mem_cons_of_mem _ g
      · rcases List.mem_cons.mp hx with rfl | z
        · exact g2
        · exact g3 x z
end
/-! ## operators of one's own -/
section
variable {X : Cx} {k : Nat} {C g : Addr} {fd : FuncData} {ps : List Str} {sp : Sp}
/-- an instance of C -/
def InsAt (H : Hp) (C a : Addr) : Prop := ∃ dx fs, H a = some (.ins C dx fs)
theorem insAt_look {pins : List (Addr × Obj)} {σ : L2.St} {H : Hp} {s : Shared} {a : Addr} (I : Inv X pins σ H s) (h : InsAt H C a) : ∃ ox od, PySem.W.InstAt s.heap a ox C od := by
  obtain ⟨dx, fs, h⟩ := h
  obtain ⟨mA, O, _⟩ := ins_get I.hok h
  obtain ⟨od, J, _⟩ := O.look
  exact ⟨_, _, J⟩
/-- a def called one C frame further in -/
theorem run_in1 {pins : List (Addr × Obj)} {σ : L2.St} {H : Hp} {s : Shared} {Q : VK} {us : List Value} {vs : List V} (F : FnOk X.prog X.w X.K X.mg X.base CX0 k g fd ps sp) (hr : Room (k + 1) X.A) (hb : Binds X.K fd ps [])
    (I : Inv X pins σ H s) (r : Vals vs us) (h : sp vs H Q E0) {E : Value → Shared → Prop} : wpAny (model X.prog X.w) X.A.in1 (call (.ref g) us) (EP X pins σ Q) E s := by
  have hl : (us ++ []).length = ps.length := by rw [List.append_nil, ← r.length]; exact F.len _ _ _ _ h
  have hbb := hb s us I.kIn hl
  rw [List.append_nil] at hbb
  refine wpAny_call (codeAny_mono (F.run X.A.in1 X.stack s H ⟨us, []⟩ us vs Q E0 hr.in1 I.env0.in1 hbb r h) ?_)
  intro r' s' hq
  match r', hq with
  | .error _, hq => exact hq.elim
  | .ok (.ret _), hq => exact I.after hq
  | .ok .next, hq => exact hq.elim
  | .ok .brk, hq => exact hq.elim
  | .ok .cont, hq => exact hq.elim
/-- len(a) -/
theorem call_lenO (F : FnOk X.prog X.w X.K X.mg X.base CX0 k g fd ps sp) (hr : Room (k + 1) X.A) (hb : Binds X.K fd ps []) (hs : PySem.W.findIn X.K (.ref C) "__len__" = some (some (.ref g))) (hf : PySem.W.isFn X.K (.ref g) = true) :
    CallR X (.builtin "len") (fun xs H Q => ∃ a, xs = [.ref a] ∧ InsAt H C a ∧ sp [.ref a] H (fun v H' => ∃ n : Nat, v = .int n ∧ n < 1000000 ∧ Q (.int n) H') E0) := by
  intro pins s σ H xs us Q I r h
  obtain ⟨a, rfl, ha, h⟩ := h
  obtain ⟨u, rfl, rfl⟩ := vals1 r
  obtain ⟨m, hF⟩ := I.fr
  obtain ⟨_, _, J⟩ := insAt_look I ha
  refine PySem.W.len_K hF I.ok.mod.kin J hs hf (thn (run_in1 (us := [.ref a]) (vs := [.ref a]) F hr hb I (.cons rfl .nil) h) ?_)
  rintro v s' ⟨x, H', I', rx, n, rfl, hn, q⟩
  obtain ⟨t, rfl⟩ := rx
  exact ⟨⟨by omega, by omega⟩, ⟨.int n, H', I'.tok _, ⟨_, rfl⟩, q⟩⟩
/-- the same as an FnR -/
theorem fnR_of {P : Program} {w : World} {K : PySem.W.Frag} {mg : Str → Option Value} {base : Heap} (F : FnOk P w K mg base CX0 k g fd ps sp) (hb : Binds K fd ps []) : FnR P w K mg base CX0 k g sp := by
  intro A outer s H us vs Q E hr e0 r h
  have hl : (us ++ []).length = ps.length := by rw [List.append_nil, ← r.length]; exact F.len _ _ _ _ h
  have KX : K.In s.heap := e0.mod.kin.keeps fun b o e => (e0.bs b o e).1
  have hbb := hb s us KX hl
  rw [List.append_nil] at hbb
  exact F.run A outer s H ⟨us, []⟩ us vs Q E hr e0 hbb r h
end
end Sg
set_option Elab.async false
set_option linter.all false
set_option maxRecDepth 100000
set_option maxHeartbeats 4000000
set_option Elab.async false
set_option linter.all false
set_option maxRecDepth 100000
set_option maxHeartbeats 4000000
namespace Sg
open PySem PySem.Spec PyProof.Rows L2 HT
/-! ## t[::-1] of a tuple -/
section
variable {prog : Program} {w : World} {A : Around} {E : Value → Shared → Prop} {s : Shared}
theorem slicePlaces_rev (n : Nat) : Builtin.Slice.slicePlaces ((n : Int) - 1) (-1) (-1) = n := by
  unfold Builtin.Slice.slicePlaces
  have h1 : ¬ ((-1 : Int) > 0) := by omega
  simp only [h1, if_false, Int.neg_neg, Int.ediv_one]
  split <;> omega
theorem sliceApplied_rev {sl : Addr} {vl vu vs : Value} {n : Nat} {Q : Int × Int × Nat → Shared → Prop} (hs : s.heap.IsSliceOf sl vl vu vs) (pl : IsPart vl none) (pu : IsPart vu none) (ps : IsPart vs (some (-1)))
    (h : Q ((n : Int) - 1, -1, n) s) : wpAny (model prog w) A (Builtin.Slice.sliceApplied (.ref sl) (pure (n : Int))) Q E s := by
  obtain ⟨os, hos, hcs, hds⟩ := id hs
  unfold Builtin.Slice.sliceApplied Builtin.Slice.sliceFields
  refine wpAny_bind (wpAny_bind (wpAny_field hos hds (x := vl) rfl (wpAny_bind (wpAny_field hos hds (x := vu) rfl (wpAny_bind (wpAny_field hos hds (x := vs) rfl (wpAny_pure ?_)))))))
  refine wpAny_bind (slicePart_ ps ?_)
  show wpAny _ _ (if ((-1 : Int) == 0) = true then _ else _) _ _ s
  rw [if_neg (by decide)]
  refine wpAny_bind (slicePart_ pl (wpAny_bind (slicePart_ pu (wpAny_bind (wpAny_pure ?_)))))
  show wpAny _ _ (pure ((n : Int) - 1, (-1 : Int), Builtin.Slice.slicePlaces ((n : Int) - 1) (-1) (-1))) _ _ s
  rw [slicePlaces_rev]
  exact wpAny_pure h
theorem filterMap_on {α β : Type} {f g : α → Option β} : ∀ {l : List α}, (∀ x ∈ l, f x = g x) → l.filterMap f = l.filterMap g
  | [], _ => rfl
  | x :: r, h => by
    rw [List.filterMap_cons, List.filterMap_cons, h x List.mem_cons_self, filterMap_on fun y hy => h y (List.mem_cons_of_mem _ hy)]
theorem pick_rev (xs : Array Value) : ((List.range xs.size).filterMap fun (m : Nat) => xs[(((xs.size : Int) - 1) + (m : Int) * (-1)).toNat]?).toArray = xs.toList.reverse.toArray := by
  have e1 : ∀ m ∈ List.range xs.size, xs[(((xs.size : Int) - 1) + (m : Int) * (-1)).toNat]? = xs[xs.size - 1 - m]? := by
    intro m hm
    have := List.mem_range.mp hm
    rw [show (((xs.size : Int) - 1) + (m : Int) * (-1)).toNat = xs.size - 1 - m from by omega]
  have e2 : ((List.range xs.size).map fun k => xs.size - 1 - k).filterMap (xs[·]?) = xs.toList.reverse := by
    rw [PySem.W.krv_range, List.filterMap_reverse, PySem.W.krv_all]
  rw [List.filterMap_map] at e2
  rw [← e2]
  congr 1
  exact filterMap_on (fun m hm => e1 m hm)
theorem getItem_tuple_rev {t sl : Addr} {items : Array Value} {vl vu vs : Value} {Q : Value → Shared → Prop} (ht : IsTup s.heap t items) (hs : s.heap.IsSliceOf sl vl vu vs) (pl : IsPart vl none) (pu : IsPart vu none) (ps : IsPart vs (some (-1)))
    (h : Q (.ref s.heap.objs.size) { s with heap := s.heap.push { cls := .type "tuple", data := .seq items.toList.reverse.toArray } })
    (hsz : items.size ≤ sizeLine) : wpAny (model prog w) A (getItem (.ref t) (.ref sl)) Q E s := by
  have htake : sizeOk (.seq items.toList.reverse.toArray) := by
    show items.toList.reverse.toArray.size ≤ sizeLine
    rw [List.size_toArray, List.length_reverse, Array.length_toList]
    exact hsz
  obtain ⟨os, hos, hcs, hds⟩ := id hs
  have hTs : s.TypeIs (.ref sl) "slice" := ⟨os, hos, hcs⟩
  unfold getItem
  try with_reducible refine wpAny_holding ?_
  first | refine wpAny_bind (wpAny_pure ?_) | skip
  refine wpAny_bind (wpAny_sequenceKey ht.typeIs (by decide) ?_)
  refine wpAny_bind (wpAny_callSpecial?_slot (name := Str.ofString "__getitem__") ht.typeIs PyProof.Rows.slot_tuple_getitem
    (wpAny_call_entry PyProof.Rows.slot_tuple_getitem ht.typeIs entry_tuple_getitem ?_ (args_tuple_getitem _ _)))
  show wpAny _ _ (Builtin.Tuple.tupleItemsOf (.ref t) >>= _) _ _ s
  refine wpAny_bind (tupleItemsOf_ ht ?_)
  refine wpAny_bind (wpAny_typeOf hTs ?_)
  rw [if_pos (by decide)]
  refine wpAny_bind (sliceApplied_rev hs pl pu ps ?_)
  have hno : ¬ ((((items.size : Int) - 1) == 0 && (-1 : Int) == 1 && items.size == items.size) = true) := by
    rw [show ((-1 : Int) == 1) = false from by decide, Bool.and_false, Bool.false_and]
    exact Bool.false_ne_true
  show wpAny _ _ (if (((items.size : Int) - 1) == 0 && (-1 : Int) == 1 && items.size == items.size) = true then _ else _) _ _ s
  rw [if_neg hno, pick_rev]
  first
    | exact wpAny_bind (m := Builtin.Tuple.tupleExact _) (wpAny_newObj_type (wpAny_pure ⟨_, rfl, wpAny_pure h⟩) htake)
    | exact wpAny_bind (m := Builtin.Tuple.tupleExact _) (wpAny_newObj_type (wpAny_bind (wpAny_pure (wpAny_pure ⟨_, rfl, wpAny_pure h⟩))) htake)
    | exact wpAny_bind (wpAny_bind (m := Builtin.Tuple.tupleExact _) (wpAny_newObj_type (wpAny_pure (wpAny_pure ⟨_, rfl, wpAny_pure h⟩)) htake))
    | exact wpAny_bind (wpAny_bind (m := Builtin.Tuple.tupleExact _) (wpAny_newObj_type (wpAny_pure ⟨_, rfl, wpAny_pure h⟩) htake))
end
def tRevT (K : PySem.W.Frag) (te : TE) : TE := fun σ H Q => te σ H fun x H1 => ∃ a xs, x = .ref a ∧ SqT K H1 a xs ∧ ∀ p, H1 p = none → Q (.ref p) (upd H1 p (.tup xs.reverse))
theorem pe_revT {X : Cx} {K : PySem.W.Frag} {e : Expr} {te : TE} {k : Nat} {p1 p2 p3 pos : Pos} (hK : X.K = K) (he : PE X e te) : PE X (.Subscript e (.Slice none none (some (.UnaryOp .USub (.Constant (.int 1) k p1) p2)) p3) pos) (tRevT K te) := by
  subst hK
  refine ⟨fun pins s σ H Q I h => ?_⟩
  refine Subscript_ (thn (he.run pins s σ H _ I h) fun v s1 ⟨x, H1, I1, r1, q1⟩ => ?_)
  obtain ⟨a, xs, ex, hx, q⟩ := q1
  subst ex
  cases r1
  have hst : PO X (some (.UnaryOp .USub (.Constant (.int 1) k p1) p2)) (tPart (tUn (rU fun i => .int (-i)) (tC (.int 1)))) := po_some (pe_un un_neg pe_int)
  refine wpAny_Slice (thn (po_none.run pins s1 σ H1 (fun o H2 => o = none ∧ H2 = H1) I1 ⟨rfl, rfl⟩) fun vl s2 ⟨l, H2, I2, pl, el, e2⟩ => ?_)
  subst el e2
  refine thn (po_none.run pins s2 σ H2 (fun o H3 => o = none ∧ H3 = H2) I2 ⟨rfl, rfl⟩) fun vu s3 ⟨u, H3, I3, pu, eu, e3⟩ => ?_
  subst eu e3
  refine thn (hst.run pins s3 σ H3 (fun o H4 => o = some (-1) ∧ H4 = H3) I3 ⟨1, rfl, -1, rfl, rfl, rfl⟩) fun vs s4 ⟨o, H4, I4, ps, eo, e4⟩ => ?_
  subst eo e4
  have I5 : Inv X pins σ H4 { s4 with heap := s4.heap.push { cls := .type "slice", data := .fields #[vl, vu, vs] } } := I4.kept (t' := s4.toks) fun b ob q => Heap.get?_push_of_some _ q
  obtain ⟨its, r, ht, hz⟩ := I5.tuple hx
  have hlen := r.length
  show wpAny (model X.prog X.w) X.A (subscriptTail e (.Slice none none (some (.UnaryOp .USub (.Constant (.int 1) k p1) p2)) p3) (.ref a) (.ref s4.heap.objs.size)) (EP X pins σ Q) X.xe { s4 with heap := s4.heap.push { cls := .type "slice", data := .fields #[vl, vu, vs] } }
  refine tail_any (ops := [.ref a, .ref s4.heap.objs.size]) ht.typeIs PyProof.Rows.slot_tuple_getitem.lookup ?_ (by with_unfolding_all rfl)
  refine getItem_tuple_rev ht (Heap.IsSliceOf.new _ vl vu vs) pl pu ps ?_ (by rw [List.size_toArray]; omega)
  refine ⟨.ref _, _, I5.laid (t' := s4.toks) (o := .tup xs.reverse) (fun b ob q => Heap.get?_push_of_some _ q) (Nat.le_refl _) ?_, rfl, q _ (I5.hok.fresh (Nat.le_refl _))⟩
  exact ⟨by rw [List.length_reverse]; exact hz, _, r.reverse, IsTup.new _ _⟩
end Sg
set_option Elab.async false
set_option linter.all false
set_option maxRecDepth 100000
set_option maxHeartbeats 4000000
set_option Elab.async false
set_option linter.all false
set_option maxRecDepth 100000
set_option maxHeartbeats 4000000
set_option Elab.async false
set_option linter.all false
set_option maxRecDepth 100000
set_option maxHeartbeats 4000000
namespace Sg
open PySem PySem.Spec PyProof.Rows L2
/-! ## min(xs, default=z), xs a list of data that are alike -/
theorem vals_back : ∀ {ys : List V} {us : List Value}, Vals ys us → ∀ {i : Nat} {v : Value}, us[i]? = some v → ∃ y, ys[i]? = some y ∧ RelV y v
  | _, _, .nil, i, v, e => nomatch e
  | _, _, .cons r t, 0, v, e => by
    cases e
    exact ⟨_, rfl, r⟩
  | _, _, .cons r t, i + 1, v, e => vals_back t (i := i) (by simpa using e)
theorem reads_back {h : Heap} : ∀ {us : List Value} {ds : List PyData} {as : List Addr}, ReadsAll h us ds as → ∀ {i : Nat} {v : Value}, us[i]? = some v → ∃ d bs, ds[i]? = some d ∧ Reads h v d bs
  | _, _, _, .nil, i, v, e => nomatch e
  | _, _, _, .cons r t, 0, v, e => by
    cases e
    exact ⟨_, _, rfl, r⟩
  | _, _, _, .cons r t, i + 1, v, e => reads_back t (i := i) (by simpa using e)
end Sg
set_option Elab.async false
set_option linter.all false
set_option maxRecDepth 100000
set_option maxHeartbeats 4000000
namespace Sg
open PySem PySem.Spec PyProof.Rows L2
/-! ## heaps -/
/-- all but p is as it was -/
def But (p : Addr) (H H' : Hp) : Prop := ∀ q o, q ≠ p → H q = some o → H' q = some o
theorem But.refl (p : Addr) (H : Hp) : But p H H := fun _ _ _ h => h
theorem But.trans {p : Addr} {H H1 H2 : Hp} (a : But p H H1) (b : But p H1 H2) : But p H H2 := fun q o n h => b q o n (a q o n h)
theorem But.of {p : Addr} {H H' : Hp} (a : Same H H') : But p H H' := fun q o _ h => a q o h
theorem But.upd {p : Addr} {H : Hp} {o : HO} : But p H (upd H p o) := fun q u n h => by rw [upd_ne n]; exact h
theorem same_new {H : Hp} {p : Addr} {o : HO} (h : H p = none) : Same H (upd H p o) := fun b x e => by
  rw [upd_ne (ne_of_none e h)]
  exact e
/-- what is new behind a But is new ahead -/
theorem But.free {p q : Addr} {H H' : Hp} {u : HO} (e : But p H H') (hp : H p = some u) (hp' : ∃ v, H' p = some v) (h : H' q = none) : H q = none := by
  by_cases n : q = p
  · subst n
    obtain ⟨v, hv⟩ := hp'
    rw [hv] at h
    exact nomatch h
  · rcases z : H q with _ | o
    · rfl
    · rw [e q o n z] at h
      exact nomatch h
theorem But.tup {K : PySem.W.Frag} {p : Addr} {H H' : Hp} {a : Addr} {xs ys : List V} (e : But p H H') (hp : H p = some (.lst ys)) (h : SqT K H a xs) : SqT K H' a xs := by
  rcases h with (h | ⟨o, h⟩) | h
  · exact .inl (.inl (e _ _ (ne_of h hp (fun z => nomatch z)) h))
  · exact .inl (.inr ⟨o, e _ _ (ne_of h hp (fun z => nomatch z)) h⟩)
  · exact .inr h
theorem Same.tup {K : PySem.W.Frag} {H H' : Hp} {a : Addr} {xs : List V} (e : Same H H') (h : SqT K H a xs) : SqT K H' a xs := by
  rcases h with (h | ⟨o, h⟩) | h
  · exact .inl (.inl (e _ _ h))
  · exact .inl (.inr ⟨o, e _ _ h⟩)
  · exact .inr h
/-- a pen at p -/
def PenAt (H : Hp) (p : Addr) : Prop := ∃ a b c : Int, H p = some (.lst [.int a, .int b, .int c]) ∧ 0 ≤ b ∧ b < 2147483648
theorem PenAt.same {H H' : Hp} {p : Addr} (h : PenAt H p) (e : Same H H') : PenAt H' p := by
  obtain ⟨a, b, c, h1, h2⟩ := h
  exact ⟨a, b, c, e _ _ h1, h2⟩
theorem PenAt.tup {K : PySem.W.Frag} {p : Addr} {H H' : Hp} {a : Addr} {xs : List V} (h : PenAt H p) (e : But p H H') (q : SqT K H a xs) : SqT K H' a xs := by
  obtain ⟨_, _, _, h1, _⟩ := h
  exact e.tup h1 q
theorem PenAt.free {p q : Addr} {H H' : Hp} (h : PenAt H p) (h' : PenAt H' p) (e : But p H H') (n : H' q = none) : H q = none := by
  obtain ⟨_, _, _, h1, _⟩ := h
  obtain ⟨_, _, _, h2, _⟩ := h'
  exact e.free h1 ⟨_, h2⟩ n
theorem atI0 {x : V} {r : List V} : atI (x :: r) 0 = some x := atI_nat (j := 0) rfl
theorem atI1 {x y : V} {r : List V} : atI (x :: y :: r) 1 = some y := atI_nat (j := 1) rfl
theorem atI2 {x y z : V} {r : List V} : atI (x :: y :: z :: r) 2 = some z := atI_nat (j := 2) rfl
end Sg
set_option Elab.async false
set_option linter.all false
set_option maxRecDepth 100000
set_option maxHeartbeats 4000000
namespace Sg
open PySem PySem.Spec PyProof.Rows L2
/-! ## the mathematics of bars -/
/-- a work, as its items -/
structure IsWork (ns : List Int) : Prop where
  pos : 1 ≤ ns.length
  most : ns.length ≤ 60
  items : ∀ x ∈ ns, -1 ≤ x ∧ x ≤ 9
  head : ∀ x, ns[0]? = some x → x ≠ -1
  last : ∀ x, ns[ns.length - 1]? = some x → x ≠ -1
/-- a piece of other, d ticks behind one of one, clashes with it -/
def clashB (one other : List Int) (d : Nat) : Bool := ((one.drop d).zip other).any fun p => p.1 == p.2 && p.1 != -1
def barsN (one other : List Int) : List Nat := (List.range' 1 (one.length - 1)).filter (clashB one other)
theorem clashB_iff {one other : List Int} {d : Nat} : clashB one other d = true ↔ ∃ j x, one[d + j]? = some x ∧ other[j]? = some x ∧ x ≠ -1 := by
  unfold clashB
  rw [List.any_eq_true]
  constructor
  · rintro ⟨⟨x, y⟩, hm, h⟩
    obtain ⟨j, hj⟩ := List.mem_iff_getElem?.mp hm
    obtain ⟨h1, h2⟩ := List.getElem?_zip_eq_some.mp hj
    simp only [Bool.and_eq_true, beq_iff_eq, bne_iff_ne, ne_eq] at h
    rw [List.getElem?_drop] at h1
    exact ⟨j, x, h1, h.1 ▸ h2, h.2⟩
  · rintro ⟨j, x, h1, h2, h3⟩
    refine ⟨(x, x), List.mem_iff_getElem?.mpr ⟨j, List.getElem?_zip_eq_some.mpr ⟨by rw [List.getElem?_drop]; exact h1, h2⟩⟩, ?_⟩
    simp [h3]
/-! ### lists step by step -/
theorem filter_range'_succ (f : Nat → Bool) (a n : Nat) : (List.range' a (n + 1)).filter f = (List.range' a n).filter f ++ (if f (a + n) = true then [a + n] else []) := by
  rw [List.range'_concat, List.filter_append, Nat.one_mul]
  congr 1
  by_cases h : f (a + n) = true
  · rw [if_pos h, List.filter_cons_of_pos h]; rfl
  · rw [if_neg h, List.filter_cons_of_neg h]; rfl
/-- the bars found below 1 + n -/
def barsTo (one other : List Int) (n : Nat) : List Nat := (List.range' 1 n).filter (clashB one other)
theorem barsTo_len (one other : List Int) (n : Nat) : (barsTo one other n).length ≤ n := by
  unfold barsTo
  refine Nat.le_trans (List.length_filter_le _ _) ?_
  rw [List.length_range']
  exact Nat.le_refl _
abbrev nV (l : List Nat) : List V := l.map fun d => V.int (d : Nat)
theorem barsTo_yes {one other : List Int} {n : Nat} (h : clashB one other (1 + n) = true) : nV (barsTo one other (n + 1)) = nV (barsTo one other n) ++ [.int ((1 : Int) + n)] := by
  unfold nV barsTo
  rw [filter_range'_succ, if_pos h, List.map_append]
  have e : (((1 + n : Nat) : Int)) = (1 : Int) + n := by omega
  simp only [List.map_cons, List.map_nil, e]
theorem barsTo_no {one other : List Int} {n : Nat} (h : clashB one other (1 + n) = false) : barsTo one other (n + 1) = barsTo one other n := by
  unfold barsTo
  rw [filter_range'_succ, if_neg (by rw [h]; exact Bool.false_ne_true), List.append_nil]
/-- the pairs of a zip, looked at in turn -/
def hitsTo (one other : List Int) (d n : Nat) : List Bool := (((one.drop d).zip other).take n).map fun p => p.1 == p.2 && p.1 != -1
theorem hits_any (one other : List Int) (d : Nat) : (hitsTo one other d (min (one.drop d).length other.length)).any id = clashB one other d := by
  unfold hitsTo clashB
  rw [List.take_of_length_le (by rw [List.length_zip]; exact Nat.le_refl _), List.any_map]
  rfl
theorem hits_succ {one other : List Int} {d n : Nat} {x y : Int} (h1 : (one.drop d)[n]? = some x) (h2 : other[n]? = some y) : hitsTo one other d (n + 1) = hitsTo one other d n ++ [x == y && x != -1] := by
  unfold hitsTo
  rw [List.take_add_one, List.getElem?_zip_eq_some (z := (x, y)) |>.mpr ⟨h1, h2⟩, List.map_append]
  rfl
theorem hits_len (one other : List Int) (d n : Nat) : (hitsTo one other d n).length ≤ n := by
  unfold hitsTo
  rw [List.length_map, List.length_take]
  exact Nat.min_le_left _ _
end Sg
set_option Elab.async false
set_option linter.all false
set_option maxRecDepth 100000
set_option maxHeartbeats 4000000
namespace Sg
open PySem PySem.Spec PyProof.Rows L2
theorem walk_zipT {K : PySem.W.Frag} {a b : Addr} {xs ys : List V} {n : Nat} (hn : n = min xs.length ys.length) :
    Walk (RZ.ItzT K a b) n (fun H => SqT K H a xs ∧ SqT K H b ys) (YPair (fun i => xs[i]?) (fun i => ys[i]?)) := by
  subst hn
  constructor
  · intro i H hi q
    have h1 : i < xs.length := by omega
    have h2 : i < ys.length := by omega
    exact ⟨xs, ys, xs[i], ys[i], q.1, q.2, List.getElem?_eq_getElem h1, List.getElem?_eq_getElem h2⟩
  · intro H q
    exact ⟨xs, ys, q.1, q.2, by omega⟩
  · rintro i H v H' hi q ⟨T, x, z, h1, h2, h3, h4, h5⟩
    exact ⟨T, x, z, h1, h2, h3, h4 xs q.1, h5 ys q.2⟩
theorem walk_enumT {K : PySem.W.Frag} {a : Addr} {xs : List V} :
    Walk (ItE K a) xs.length (fun H => SqT K H a xs) (YPair (fun i => some (.int (i : Nat))) (fun i => xs[i]?)) := by
  constructor
  · intro i H hi q
    exact ⟨xs, xs[i], q, List.getElem?_eq_getElem hi⟩
  · intro H q
    exact ⟨xs, q, Nat.le_refl _⟩
  · rintro i H v H' hi q ⟨T, x, h1, h2, h3, h4⟩
    exact ⟨T, .int (i : Nat), x, h1, h2, h3, rfl, h4 xs q⟩
theorem cut_from (xs : List V) (d : Nat) : cutV xs (some (d : Int)) none = xs.drop d := by
  unfold cutV
  rw [HT.sIx_nat, HT.sIx_none]
  rcases Nat.le_total d xs.length with h | h
  · rw [Nat.min_eq_left h]
    exact List.take_of_length_le (by rw [List.length_drop]; exact Nat.le_refl _)
  · rw [Nat.min_eq_right h, List.drop_of_length_le (Nat.le_refl _), List.drop_of_length_le h]
    exact List.take_nil
section
variable {P : Program} {w : World} {K : PySem.W.Frag} {mg : Str → Option Value} {base : Heap}
theorem tyT {H : Hp} {a : Addr} {xs : List V} (h : SqT K H a xs) : TyX K H (.ref a) (.type "tuple") := by
  rcases h with (h | ⟨o, h⟩) | ⟨o, _, _, h, hc, _⟩
  · exact .base (.tup h)
  · exact .fTuple h
  · exact .kTuple h hc
/-- the module's numbers -/
structure Nums (mg : Str → Option Value) : Prop where
  nowhere : ∃ t, mg "NOWHERE" = some (.int (-1) t)
  stations : ∃ t, mg "STATIONS" = some (.int 10 t)
  most : ∃ t, mg "MOST_ITEMS" = some (.int 60 t)
def inR (x : Int) : Bool := decide (-1 ≤ x) && decide (x ≤ 9)
end
end Sg
set_option Elab.async false
set_option linter.all false
set_option maxRecDepth 100000
set_option maxHeartbeats 4000000
namespace Sg
open PySem PySem.Spec PyProof.Rows L2
/-! ## data that is shown -/
/-- data made of small ints, in lists and tuples, no deeper than n, of bulk b at most -/
structure Small (d : PyData) (n b : Nat) : Prop where
  sh : d.showable = true
  nd : d.hasDict = false
  dp : d.depth ≤ n
  lv : d.leavesShort 15 = true
  bk : d.bulk ≤ b
  ly : d.canLay0 = true
structure SmallAll (ds : List PyData) (n b : Nat) : Prop where
  sh : PyData.showableAll ds = true
  nd : PyData.hasDictAll ds = false
  dp : PyData.depthAll ds ≤ n
  lv : PyData.leavesShortAll 15 ds = true
  bk : PyData.bulkAll ds ≤ b
  ly : PyData.canLayAll0 ds = true
theorem Small.shows {d : PyData} {n b : Nat} (h : Small d n b) (hn : n ≤ 40) (hb : b ≤ 900000) : Shows d := by
  refine ⟨h.sh, h.nd, Nat.le_trans h.dp hn, ?_⟩
  have h1 := PyData.shown_le_bulk 15 (by decide) d h.lv
  have h2 := h.bk
  have h3 : (15 + 2) * d.bulk ≤ (15 + 2) * 900000 := Nat.mul_le_mul_left _ (Nat.le_trans h2 hb)
  have h4 : sizeLine = 16777216 := sizeLine_eq
  omega
theorem Small.shaped {d : PyData} {n b : Nat} (h : Small d n b) (hn : n ≤ 64) : SeqAt.shaped d = true := by
  unfold SeqAt.shaped
  rw [h.ly, decide_eq_true (Nat.le_trans h.dp hn)]
  rfl
theorem Small.list {ds : List PyData} {n b : Nat} (h : SmallAll ds n b) : Small (.list ds) (n + 1) b :=
  ⟨by simpa only [PyData.showable] using h.sh, by simpa only [PyData.hasDict] using h.nd, by simpa only [PyData.depth] using Nat.succ_le_succ h.dp,
    by simpa only [PyData.leavesShort] using h.lv, by simpa only [PyData.bulk] using h.bk, by simpa only [PyData.canLay0] using h.ly⟩
theorem Small.tuple {ds : List PyData} {n b : Nat} (h : SmallAll ds n b) : Small (.tuple ds) (n + 1) b :=
  ⟨by simpa only [PyData.showable] using h.sh, by simpa only [PyData.hasDict] using h.nd, by simpa only [PyData.depth] using Nat.succ_le_succ h.dp,
    by simpa only [PyData.leavesShort] using h.lv, by simpa only [PyData.bulk] using h.bk, by simpa only [PyData.canLay0] using h.ly⟩
theorem SmallAll.nil {n b : Nat} : SmallAll [] n b := ⟨by simp only [PyData.showableAll], by simp only [PyData.hasDictAll], by simp only [PyData.depthAll]; exact Nat.zero_le _,
  by simp only [PyData.leavesShortAll], by simp only [PyData.bulkAll]; exact Nat.zero_le _, by simp only [PyData.canLayAll0]⟩
theorem SmallAll.cons {d : PyData} {ds : List PyData} {n b c : Nat} (h : Small d n b) (r : SmallAll ds n c) : SmallAll (d :: ds) n (b + 1 + c) :=
  ⟨by simp only [PyData.showableAll, h.sh, r.sh, Bool.and_self], by simp only [PyData.hasDictAll, h.nd, r.nd, Bool.or_self], by simp only [PyData.depthAll]; exact Nat.max_le.mpr ⟨h.dp, r.dp⟩,
    by simp only [PyData.leavesShortAll, h.lv, r.lv, Bool.and_self], by simp only [PyData.bulkAll]; have h1 := h.bk; have h2 := r.bk; omega, by simp only [PyData.canLayAll0, h.ly, r.ly, Bool.and_self]⟩
theorem Small.int {i : Int} {n b : Nat} (h1 : -99999999999999 ≤ i) (h2 : i ≤ 99999999999999) : Small (.int i) n b := by
  refine ⟨?_, by simp only [PyData.hasDict], by simp only [PyData.depth]; exact Nat.zero_le _, ?_, by simp only [PyData.bulk]; exact Nat.zero_le _, by simp only [PyData.canLay0]⟩
  · simp only [PyData.showable, decide_eq_true_eq]
    have h3 : i.natAbs < 2 ^ 47 := by omega
    have h4 := PySem.Flt.log2_lt_of (show 0 < 47 by decide) h3
    omega
  · simp only [PyData.leavesShort, decide_eq_true_eq]
    have h6 : i.natAbs < 10 ^ 14 := by
      have e : (10 : Nat) ^ 14 = 100000000000000 := by decide
      rw [e]
      omega
    have h5 := int_text_length_le10 (k := 14) (by decide) h6
    show (Str.ofString (toString i)).length ≤ 15
    rw [PySem.ofString_length]
    exact h5
theorem Small.mono {d : PyData} {n m b c : Nat} (h : Small d n b) (hn : n ≤ m) (hb : b ≤ c) : Small d m c := ⟨h.sh, h.nd, Nat.le_trans h.dp hn, h.lv, Nat.le_trans h.bk hb, h.ly⟩
theorem SmallAll.mono {d : List PyData} {n m b c : Nat} (h : SmallAll d n b) (hn : n ≤ m) (hb : b ≤ c) : SmallAll d m c := ⟨h.sh, h.nd, Nat.le_trans h.dp hn, h.lv, Nat.le_trans h.bk hb, h.ly⟩
abbrev iD (ns : List Int) : List PyData := ns.map PyData.int
theorem SmallAll.ints {n : Nat} : ∀ (ns : List Int), (∀ x ∈ ns, -99999999999999 ≤ x ∧ x ≤ 99999999999999) → SmallAll (iD ns) n ns.length
  | [], _ => .nil
  | x :: r, h => by
    have h1 := h x List.mem_cons_self
    have h2 := SmallAll.cons (Small.int (n := n) (b := 0) h1.1 h1.2) (SmallAll.ints r fun y hy => h y (List.mem_cons_of_mem _ hy))
    exact h2.mono (Nat.le_refl _) (by show 0 + 1 + r.length ≤ r.length + 1; omega)
theorem dpInts {K : PySem.W.Frag} {H : Hp} : ∀ (ns : List Int), DpAll K H (ns.map V.int) (iD ns)
  | [] => .nil
  | x :: r => .cons (.int x) (dpInts r)
abbrev nI (l : List Nat) : List Int := l.map fun d => ((d : Nat) : Int)
theorem nV_eq (l : List Nat) : nV l = (nI l).map V.int := by rw [List.map_map]; rfl
section
variable {P : Program} {w : World} {K : PySem.W.Frag} {mg : Str → Option Value} {base : Heap}
/-! ### _law_same -/
def spSame (K : PySem.W.Frag) : Sp := fun vs H Q _ => ∃ (a b : Addr) (d : PyData), vs = [.ref a, .ref b] ∧ Dp K H (.ref a) d ∧ Dp K H (.ref b) d ∧ Shows d ∧ Q (.bl true) H
theorem PenAt.upd {H : Hp} {p q : Addr} {o : HO} (h : PenAt H p) (n : p ≠ q) : PenAt (upd H q o) p := by
  obtain ⟨a, b, c, h1, h2⟩ := h
  exact ⟨a, b, c, by rw [upd_ne n]; exact h1, h2⟩
theorem PenAt.ne {H : Hp} {p q : Addr} (h : PenAt H p) (n : H q = none) : p ≠ q := by
  obtain ⟨a, b, c, h1, _⟩ := h
  exact ne_of_none h1 n
end
end Sg
set_option Elab.async false
set_option linter.all false
set_option maxRecDepth 100000
set_option maxHeartbeats 4000000
namespace Sg
open PySem PySem.Spec PyProof.Rows L2
/-! ## data of ints and tuples alone -/
section
variable {K : PySem.W.Frag} {H H' : Hp}
mutual
inductive Tp (K : PySem.W.Frag) (H : Hp) : V → PyData → Prop
  | int (i : Int) : Tp K H (.int i) (.int i)
  | tu {a : Addr} {xs : List V} {ds : List PyData} : SqT K H a xs → TpAll K H xs ds → Tp K H (.ref a) (.tuple ds)
inductive TpAll (K : PySem.W.Frag) (H : Hp) : List V → List PyData → Prop
  | no : TpAll K H [] []
  | on {v : V} {vs : List V} {d : PyData} {ds : List PyData} : Tp K H v d → TpAll K H vs ds → TpAll K H (v :: vs) (d :: ds)
end
mutual
theorem Tp.dp : ∀ {v : V} {d : PyData}, Tp K H v d → Dp K H v d
  | _, _, .int i => .int i
  | _, _, .tu h r => .tup h (TpAll.dp r)
theorem TpAll.dp : ∀ {v : List V} {d : List PyData}, TpAll K H v d → DpAll K H v d
  | _, _, .no => .nil
  | _, _, .on a r => .cons (Tp.dp a) (TpAll.dp r)
end
/-- all tuples and all instances are as they were -/
structure St (K : PySem.W.Frag) (H H' : Hp) : Prop where
  tu : ∀ a xs, SqT K H a xs → SqT K H' a xs
  ob : ∀ a C dx fs, H a = some (.ins C dx fs) → H' a = some (.ins C dx fs)
theorem St.refl : St K H H := ⟨fun _ _ h => h, fun _ _ _ _ h => h⟩
theorem St.trans {H2 : Hp} (a : St K H H') (b : St K H' H2) : St K H H2 := ⟨fun _ _ h => b.tu _ _ (a.tu _ _ h), fun _ _ _ _ h => b.ob _ _ _ _ (a.ob _ _ _ _ h)⟩
theorem St.of (e : Same H H') : St K H H' := ⟨fun _ _ h => Same.tup e h, fun _ _ _ _ h => e _ _ h⟩
theorem St.but {p : Addr} {ys : List V} (e : But p H H') (hp : H p = some (.lst ys)) : St K H H' :=
  ⟨fun _ _ h => But.tup e hp h, fun a C dx fs h => e _ _ (fun z => by rw [z, hp] at h; exact nomatch h) h⟩
mutual
theorem Tp.stayT (e : ∀ a xs, SqT K H a xs → SqT K H' a xs) : ∀ {v : V} {d : PyData}, Tp K H v d → Tp K H' v d
  | _, _, .int i => .int i
  | _, _, .tu h r => .tu (e _ _ h) (TpAll.stayT e r)
theorem TpAll.stayT (e : ∀ a xs, SqT K H a xs → SqT K H' a xs) : ∀ {v : List V} {d : List PyData}, TpAll K H v d → TpAll K H' v d
  | _, _, .no => .no
  | _, _, .on a r => .on (Tp.stayT e a) (TpAll.stayT e r)
end
theorem tu_ins {p C dx : Addr} {fs : List (Str × V)} {o : HO} (hp : H p = some (.ins C dx fs)) : ∀ a xs, SqT K H a xs → SqT K (upd H p o) a xs := by
  intro a xs h
  have ne : ∀ u, H a = some u → (∀ C dx fs, u ≠ .ins C dx fs) → a ≠ p := fun u hu n z => by
    rw [z, hp] at hu
    exact n _ _ _ (Option.some.inj hu).symm
  exact h.imp (fun z => z.imp (fun z => by rw [upd_ne (ne _ z (fun _ _ _ q => nomatch q))]; exact z) fun ⟨u, z⟩ => ⟨u, by rw [upd_ne (ne _ z (fun _ _ _ q => nomatch q))]; exact z⟩) id
mutual
theorem Tp.stay (e : St K H H') : ∀ {v : V} {d : PyData}, Tp K H v d → Tp K H' v d
  | _, _, .int i => .int i
  | _, _, .tu h r => .tu (e.tu _ _ h) (TpAll.stay e r)
theorem TpAll.stay (e : St K H H') : ∀ {v : List V} {d : List PyData}, TpAll K H v d → TpAll K H' v d
  | _, _, .no => .no
  | _, _, .on a r => .on (Tp.stay e a) (TpAll.stay e r)
end
theorem TpAll.len : ∀ {vs : List V} {ds : List PyData}, TpAll K H vs ds → vs.length = ds.length
  | _, _, .no => rfl
  | _, _, .on _ r => congrArg (· + 1) (TpAll.len r)
theorem TpAll.at : ∀ {vs : List V} {ds : List PyData} {i : Nat} {v : V}, TpAll K H vs ds → vs[i]? = some v → ∃ d, ds[i]? = some d ∧ Tp K H v d
  | _, _, 0, _, .on a _, e => by cases e; exact ⟨_, rfl, a⟩
  | _, _, i + 1, _, .on _ r, e => TpAll.at (i := i) r e
theorem TpAll.add : ∀ {vs us : List V} {ds es : List PyData}, TpAll K H vs ds → TpAll K H us es → TpAll K H (vs ++ us) (ds ++ es)
  | _, _, _, _, .no, b => b
  | _, _, _, _, .on a r, b => .on a (TpAll.add r b)
theorem TpAll.cut : ∀ {vs : List V} {ds : List PyData} (n : Nat), TpAll K H vs ds → TpAll K H (vs.take n) (ds.take n)
  | _, _, 0, _ => .no
  | _, _, _ + 1, .no => .no
  | _, _, n + 1, .on a r => .on a (TpAll.cut n r)
theorem TpAll.off : ∀ {vs : List V} {ds : List PyData} (n : Nat), TpAll K H vs ds → TpAll K H (vs.drop n) (ds.drop n)
  | _, _, 0, r => r
  | _, _, _ + 1, .no => .no
  | _, _, n + 1, .on _ r => TpAll.off n r
theorem TpAll.ints : ∀ (ns : List Int), TpAll K H (ns.map V.int) (iD ns)
  | [] => .no
  | x :: r => .on (.int x) (TpAll.ints r)
theorem TpAll.isInts : ∀ {vs : List V} {ns : List Int}, TpAll K H vs (iD ns) → vs = ns.map V.int
  | _, [], .no => rfl
  | _, _ :: _, .on (.int _) r => by rw [TpAll.isInts r]; rfl
theorem Tp.ofInts {a : Addr} {ns : List Int} (h : SqT K H a (ns.map V.int)) : Tp K H (.ref a) (.tuple (iD ns)) := .tu h (TpAll.ints ns)
theorem Tp.toInts {v : V} {ns : List Int} (h : Tp K H v (.tuple (iD ns))) : ∃ a, v = .ref a ∧ SqT K H a (ns.map V.int) := by
  cases h with
  | tu h r => exact ⟨_, rfl, by rw [← TpAll.isInts r]; exact h⟩
theorem Tp.toTup {v : V} {ds : List PyData} (h : Tp K H v (.tuple ds)) : ∃ a xs, v = .ref a ∧ SqT K H a xs ∧ TpAll K H xs ds := by
  cases h with
  | tu h r => exact ⟨_, _, rfl, h, r⟩
end
/-! ## lines -/
/-- one to three works -/
structure GoodL (ws : List (List Int)) : Prop where
  least : 1 ≤ ws.length
  few : ws.length ≤ 3
  work : ∀ w ∈ ws, IsWork w
abbrev tD (ns : List Int) : PyData := .tuple (iD ns)
abbrev tDs (ws : List (List Int)) : List PyData := ws.map tD
abbrev cellD (a b : List Int) : PyData := tD (nI (barsN a b))
abbrev rowD (a : List Int) (ws : List (List Int)) : PyData := .tuple (ws.map (cellD a))
abbrev barD (ws : List (List Int)) : List PyData := ws.map fun a => rowD a ws
/-- the bars of all, row by row -/
def rowB (a : List Int) (ws : List (List Int)) : List Int := ws.flatMap fun b => nI (barsN a b)
def allB (ws vs : List (List Int)) : List Int := ws.flatMap fun a => rowB a vs
/-- the greatest, or 0 -/
structure Top (l : List Int) (m : Int) : Prop where
  pos : 0 ≤ m
  le : ∀ x ∈ l, x ≤ m
  eq : m = 0 ∨ m ∈ l
theorem Top.uniq {l k : List Int} {m n : Int} (h : Top l m) (g : Top k n) (e : ∀ x, x ∈ l ↔ x ∈ k) : m = n := by
  have a : m ≤ n := by
    rcases h.eq with z | z
    · rw [z]; exact g.pos
    · exact g.le _ ((e _).mp z)
  have b : n ≤ m := by
    rcases g.eq with z | z
    · rw [z]; exact h.pos
    · exact h.le _ ((e _).mpr z)
  omega
/-! ### the object -/
def lf (t b : Addr) (r : Int) : List (Str × V) := putF "_reach" (.int r) (putF "_bars" (.ref b) (putF "_works" (.ref t) []))
theorem k1 : ¬ (("_works" : Str) = "_bars") := by decide +kernel
theorem k2 : ¬ (("_works" : Str) = "_reach") := by decide +kernel
theorem k3 : ¬ (("_bars" : Str) = "_reach") := by decide +kernel
theorem lf_works (t b : Addr) (r : Int) : (lf t b r).lookup ("_works" : Str) = some (.ref t) := by
  unfold lf
  rw [lookup_putF, if_neg k2, lookup_putF, if_neg k1, lookup_putF, if_pos rfl]
theorem lf_bars (t b : Addr) (r : Int) : (lf t b r).lookup ("_bars" : Str) = some (.ref b) := by
  unfold lf
  rw [lookup_putF, if_neg k3, lookup_putF, if_pos rfl]
theorem lf_reach (t b : Addr) (r : Int) : (lf t b r).lookup ("_reach" : Str) = some (.int r) := by
  unfold lf
  rw [lookup_putF, if_pos rfl]
/-- a Line of these works stands at a -/
def LineAt (K : PySem.W.Frag) (C : Addr) (H : Hp) (a : Addr) (ws : List (List Int)) : Prop :=
  ∃ (dx t b : Addr) (r : Int), H a = some (.ins C dx (lf t b r)) ∧ Tp K H (.ref t) (.tuple (tDs ws)) ∧ Tp K H (.ref b) (.tuple (barD ws)) ∧ Top (allB ws ws) r ∧ GoodL ws
theorem LineAt.ins {K : PySem.W.Frag} {C a : Addr} {H : Hp} {ws : List (List Int)} (h : LineAt K C H a ws) : InsAt H C a := by
  obtain ⟨dx, t, b, r, h1, _⟩ := h
  exact ⟨_, _, h1⟩
theorem LineAt.good {K : PySem.W.Frag} {C a : Addr} {H : Hp} {ws : List (List Int)} (h : LineAt K C H a ws) : GoodL ws := by
  obtain ⟨dx, t, b, r, _, _, _, _, g⟩ := h
  exact g
theorem LineAt.stay {K : PySem.W.Frag} {C a : Addr} {H H' : Hp} {ws : List (List Int)} (e : St K H H') (h : LineAt K C H a ws) : LineAt K C H' a ws := by
  obtain ⟨dx, t, b, r, h1, h2, h3, h4, h5⟩ := h
  exact ⟨dx, t, b, r, e.ob _ _ _ _ h1, h2.stay e, h3.stay e, h4, h5⟩
theorem TpAll.works {K : PySem.W.Frag} {H : Hp} {vs : List V} {ws : List (List Int)} {i : Nat} {v : V} (h : TpAll K H vs (tDs ws)) (e : vs[i]? = some v) : ∃ w a, ws[i]? = some w ∧ v = .ref a ∧ SqT K H a (w.map V.int) := by
  obtain ⟨d, hd, t⟩ := h.at e
  rw [List.getElem?_map] at hd
  obtain ⟨w, hw, rfl⟩ := Option.map_eq_some_iff.mp hd
  obtain ⟨a, rfl, hs⟩ := t.toInts
  exact ⟨w, a, hw, rfl, hs⟩
end Sg
set_option Elab.async false
set_option linter.all false
set_option maxRecDepth 100000
set_option maxHeartbeats 4000000
namespace Sg
open PySem PySem.Spec PyProof.Rows L2
theorem call_tuple_ofK {X : Cx} {K : PySem.W.Frag} (hK : X.K = K) : CallR X (.type "tuple") (fun xs H Q => ∃ p ys, xs = [.ref p] ∧ ((SqL K H p ys ∧ ∀ l, H l = none → Q (.ref l) (upd H l (.tup ys))) ∨ (SqT K H p ys ∧ Q (.ref p) H))) := by
  subst hK; exact call_tuple_of
theorem pi_tupK {X : Cx} {K : PySem.W.Frag} {tg l : Expr} {tl : TE} (hK : X.K = K) (hl : PE X l tl) : PI X tg l (iTup K tl) := by
  subst hK; exact pi_tup hl
/-! ## a list of tuple data that grows -/
def Grow (K : PySem.W.Frag) (H1 : Hp) (D : Addr) (ds : List PyData) (i : Nat) (H' : Hp) : Prop := Same H1 H' ∧ ∃ acc, H' D = some (.lst acc) ∧ TpAll K H' acc (ds.take i)
theorem Grow.zero {K : PySem.W.Frag} {H1 : Hp} {D : Addr} {ds : List PyData} (hD : H1 D = none) : Grow K H1 D ds 0 (upd H1 D (.lst [])) :=
  ⟨same_new hD, [], upd_same, .no⟩
theorem Grow.next {K : PySem.W.Frag} {H1 H' H'' : Hp} {D : Addr} {ds : List PyData} {i : Nat} {d : PyData} {v : V} (hD : H1 D = none) (hz : ds.length ≤ 1000) (h : Grow K H1 D ds i H') (e : Same H' H'') (hd : ds[i]? = some d) (t : Tp K H'' v d) :
    ∃ acc, H'' D = some (.lst acc) ∧ acc.length < sizeLine ∧ Grow K H1 D ds (i + 1) (upd H'' D (.lst (acc ++ [v]))) := by
  obtain ⟨s1, acc, h1, h2⟩ := h
  have hD2 := e _ _ h1
  have st : St K H'' (upd H'' D (.lst (acc ++ [v]))) := .but (.upd) hD2
  refine ⟨acc, hD2, ?_, fun b o q => ?_, _, upd_same, ?_⟩
  · have z := h2.len
    have z2 : i < ds.length := (List.getElem?_eq_some_iff.mp hd).1
    rw [List.length_take] at z
    exact small1000 (by omega)
  · rw [upd_ne (ne_of_none q hD)]
    exact e _ _ (s1 _ _ q)
  · rw [List.take_add_one, hd]
    exact ((h2.stay (.of e)).stay st).add (.on (t.stay st) .no)
theorem Grow.done {K : PySem.W.Frag} {H1 H' : Hp} {D : Addr} {ds : List PyData} {n : Nat} (h : Grow K H1 D ds n H') (hn : n = ds.length) : Same H1 H' ∧ ∃ acc, H' D = some (.lst acc) ∧ TpAll K H' acc ds := by
  obtain ⟨s1, acc, h1, h2⟩ := h
  rw [hn, List.take_length] at h2
  exact ⟨s1, acc, h1, h2⟩
theorem Tp.new {K : PySem.W.Frag} {H : Hp} {l : Addr} {acc : List V} {ds : List PyData} (nl : H l = none) (t : TpAll K H acc ds) : Tp K (upd H l (.tup acc)) (.ref l) (.tuple ds) :=
  .tu (.of upd_same) (t.stay (.of (same_new nl)))
theorem GoodL.mem {ws : List (List Int)} (h : GoodL ws) {i : Nat} {w : List Int} (e : ws[i]? = Option.some w) : IsWork w := h.work w (List.mem_of_getElem? e)
theorem GoodL.lt {ws : List (List Int)} (h : GoodL ws) : (barD ws).length ≤ 1000 := by
  have := h.few
  rw [List.length_map]
  omega
/-- what the class has -/
structure LC (K : PySem.W.Frag) (mg : Str → Option Value) (C : Addr) : Prop where
  cl : Cls K C
  nW : NoAttr K C "_works"
  nB : NoAttr K C "_bars"
  nR : NoAttr K C "_reach"
  mgC : mg "Line" = some (.ref C)
end Sg
set_option Elab.async false
set_option linter.all false
set_option maxRecDepth 100000
set_option maxHeartbeats 4000000
namespace Sg
open PySem PySem.Spec PyProof.Rows L2
/-! ## a tuple times 0, 1 or more -/
theorem tuple_mulOne (l : Addr) (items : Array Value) (n : Nat) (dd : Option Addr) (sl : Array (Option Value)) (u : Tok) :
    Meets (Builtin.«tuple.__mul__» ⟨[.ref l, .int 1 u], []⟩) (fun _ R s => s.heap.get? l = some { cls := .type "tuple", dict := dd, data := .seq items n, slots := sl } ∧ R (.ok (.ret (Value.ref l))) s) :=
  .of_wp fun prog w A R s h => by
    obtain ⟨hp, g, d, tk, os⟩ := s
    obtain ⟨hl, h⟩ := h
    have f1 := AutoSeq1.idx_int
    have ht : Shared.TypeIs ⟨hp, g, d, tk, os⟩ (.ref l) "tuple" := ⟨_, hl, rfl⟩
    wp_walk using wpAny_loadPart' hl, wpAny_typeOf ht
    repeat (first
      | (refine wpAny_ite_true (by rw [Bool.or_eq_true]; exact .inr rfl) ?_; wp_walk using wpAny_loadPart' hl, wpAny_typeOf ht)
      | (refine wpAny_ite_true rfl ?_; wp_walk using wpAny_loadPart' hl, wpAny_typeOf ht)
      | (refine wpAny_ite_false (by decide) ?_; wp_walk using wpAny_loadPart' hl, wpAny_typeOf ht))
    exact ⟨_, rfl, h⟩
theorem tuple_mulNone (l : Addr) (items : Array Value) (n : Nat) (dd : Option Addr) (sl : Array (Option Value)) (u : Tok) (c1 : items.isEmpty = false) :
    Meets (Builtin.«tuple.__mul__» ⟨[.ref l, .int 0 u], []⟩) (fun _ R s => s.heap.get? l = some { cls := .type "tuple", dict := dd, data := .seq items n, slots := sl } ∧
      R (.ok (.ret (Value.ref s.heap.objs.size))) { s with heap := s.heap.push { cls := Value.type "tuple", data := Data.seq #[] }, toks := s.toks }) :=
  .of_wp fun prog w A R s h => by
    obtain ⟨hp, g, d, tk, os⟩ := s
    obtain ⟨hl, h⟩ := h
    have f1 := AutoSeq1.idx_int
    have c2 : (items.isEmpty || (0 : Int) == 1) = false := by rw [c1]; rfl
    wp_walk using wpAny_loadPart' hl
    repeat (first
      | (refine wpAny_ite_false (by rw [c2]; exact Bool.false_ne_true) ?_; wp_walk using wpAny_loadPart' hl)
      | (refine wpAny_ite_true rfl ?_; wp_walk using wpAny_loadPart' hl)
      | (refine wpAny_ite_false (by decide) ?_; wp_walk using wpAny_loadPart' hl))
    exact ⟨_, rfl, h⟩
def rRepN (K : PySem.W.Frag) : R2 := fun x y H Q => ∃ (l : Addr) (k : Nat) (xs : List V), x = .ref l ∧ y = .int k ∧ SqT K H l xs ∧ xs ≠ [] ∧ k ≤ 1000 ∧ xs.length ≤ 1000 ∧
  (k = 1 → Q (.ref l) H) ∧ (k ≠ 1 → ∀ p, H p = none → Q (.ref p) (upd H p (.tup (List.replicate k xs).flatten)))
theorem op_repN {X : Cx} : OpR X (binaryOp .Mult) (rRepN X.K) := by
  intro pins s σ H x y v u Q I rx ry h
  obtain ⟨l, k, xs, rfl, rfl, hT, hne, h2, hz, q1, q2⟩ := h
  by_cases h1 : 2 ≤ k
  · refine op_repT pins s σ H _ _ v u Q I rx ry ⟨l, k, xs, rfl, rfl, hT, hne, by omega, by omega, hz, fun p np => ?_⟩
    rw [Int.toNat_natCast]
    exact q2 (by omega) p np
  cases rx
  obtain ⟨t, rfl⟩ := ry
  obtain ⟨its, r, ⟨⟨cls, dd, data, sl⟩, ho, hc, n, hd⟩, hs⟩ := I.tuple hT
  simp only at hc hd
  subst hc hd
  have hle : its.length = xs.length := r.length.symm
  have hn : its ≠ [] := fun e => hne (by
    rw [e] at hle
    exact List.eq_nil_of_length_eq_zero hle.symm)
  have hi : its.toArray.isEmpty = false := by
    cases its with
    | nil => exact absurd rfl hn
    | cons a b => rfl
  rcases (show k = 0 ∨ k = 1 by omega) with rfl | rfl
  · refine wpAny_binaryOp_repeat_ref (T := "tuple") (U := "int") (by decide) ⟨_, ho, rfl⟩ (fun s' => typeIs_int s' _ t) noFill_tuple_mul F.fills_int_mul F.slot_int_rmul repeat_tuple PySem.F.slot_int_index.lookup
      (call_meets F.slot_int_rmul (typeIs_int s _ t) F.entry_int_rmul (F.args_int_rmul_2 _ _) (int_rmul_tuple _ t l its.toArray n dd sl)
        ⟨ho, rfl, ⟨_, ho, rfl⟩, call_meets F.slot_tuple_mul ⟨_, ho, rfl⟩ F.entry_tuple_mul (F.args_tuple_mul_2 _ _) (tuple_mulNone l its.toArray n dd sl t hi) ⟨ho, ?_⟩⟩)
    refine ⟨.ref s.heap.objs.size, _, I.laid (t' := s.toks) (o := .tup (List.replicate 0 xs).flatten) (fun b ob q => Heap.get?_push_of_some _ q) (Nat.le_refl _) ?_, rfl, q2 (by decide) _ (I.hok.fresh (Nat.le_refl _))⟩
    exact ⟨Nat.zero_le _, [], .nil, IsTup.new _ _⟩
  · refine wpAny_binaryOp_repeat_ref (T := "tuple") (U := "int") (by decide) ⟨_, ho, rfl⟩ (fun s' => typeIs_int s' _ t) noFill_tuple_mul F.fills_int_mul F.slot_int_rmul repeat_tuple PySem.F.slot_int_index.lookup
      (call_meets F.slot_int_rmul (typeIs_int s _ t) F.entry_int_rmul (F.args_int_rmul_2 _ _) (int_rmul_tuple _ t l its.toArray n dd sl)
        ⟨ho, rfl, ⟨_, ho, rfl⟩, call_meets F.slot_tuple_mul ⟨_, ho, rfl⟩ F.entry_tuple_mul (F.args_tuple_mul_2 _ _) (tuple_mulOne l its.toArray n dd sl t) ⟨ho, ?_⟩⟩)
    exact ⟨.ref l, H, I, rfl, q1 rfl⟩
/-! ## a part of a tuple, the whole of it too -/
end Sg
set_option Elab.async false
set_option linter.all false
set_option maxRecDepth 100000
set_option maxHeartbeats 4000000
namespace Sg
open PySem PySem.Spec PyProof.Rows L2
theorem tup_upd {K : PySem.W.Frag} {H : Hp} {p a : Addr} {xs : List V} {u o : HO} (hp : H p = some u) (hu : ∀ ys, HO.tup ys ≠ u) (hv : ∀ ob ys, HO.frz ob (.tup ys) ≠ u) (h : SqT K H a xs) : SqT K (upd H p o) a xs := by
  rcases h with (h | ⟨ob, h⟩) | h
  · exact .inl (.inl (by rw [upd_ne (ne_of h hp (hu _))]; exact h))
  · exact .inl (.inr ⟨ob, by rw [upd_ne (ne_of h hp (hv _ _))]; exact h⟩)
  · exact .inr h
theorem ixN_nat {n j : Nat} (h : j < n) : ixN n (j : Int) = some j := by
  unfold ixN
  rw [if_pos (by omega), if_pos (by omega), Int.toNat_natCast]
theorem ixN_end {n : Nat} (h : 0 < n) : ixN n (-1) = some (n - 1) := by
  unfold ixN
  rw [if_neg (by decide), if_pos (by omega)]
  congr 1
  omega
theorem mem_set {l : List Int} {i : Nat} {v x : Int} (h : x ∈ l.set i v) : x = v ∨ x ∈ l := by
  rcases List.mem_or_eq_of_mem_set h with z | z
  · exact .inr z
  · exact .inl z
theorem set_at {l : List Int} {i j : Nat} {v x : Int} (h : (l.set i v)[j]? = some x) : x = v ∨ (i ≠ j ∧ l[j]? = some x) := by
  by_cases e : i = j
  · have hm := List.mem_of_getElem? h
    subst e
    rw [List.getElem?_set_self'] at h
    left
    cases hl : l[i]? with
    | none =>
      rw [hl] at h
      exact nomatch h
    | some y =>
      rw [hl] at h
      exact (Option.some.inj h).symm
  · rw [List.getElem?_set_ne e] at h
    exact .inr ⟨e, h⟩
theorem PenAt.new {H : Hp} {p l : Addr} {o : HO} (h : PenAt H p) (n : H l = none) : PenAt (L2.upd H l o) p := h.upd (h.ne n)
theorem freeS {H H' : Hp} {t : Addr} (e : Same H H') (n : H' t = none) : H t = none := by
  rcases z : H t with _ | o
  · rfl
  · rw [e _ _ z] at n
    exact nomatch n
theorem cr_sumT {X : Cx} (hc : X.calm = true) : CallR X (.builtin "sum") (fun vs H Q => ∃ (a : Addr) (ns : List Int), vs = [.ref a] ∧ SqT X.K H a (ns.map V.int) ∧ Q (.int ns.sum) H) := by
  intro pins s σ H vs us Q I r h
  obtain ⟨a, ns, rfl, hs, q⟩ := h
  obtain ⟨its, rv, ht, hz⟩ := I.tuple hs
  rw [Vals.ref1 r]
  obtain ⟨xs, e⟩ := rv.ints.allInts.items
  have hn : numsOf (intItems xs).toList = ns := by rw [← e]; exact rv.ints.numsOf
  rw [nums_intItems] at hn
  rw [e] at ht
  refine PySem.W.ktm_sumG (I.ok.hd hc) ht fun h' tk t' hk => ?_
  refine ⟨.int ns.sum, H, I.kept hk, ⟨t', ?_⟩, q⟩
  rw [preSum_eq, List.take_of_length_le (by simp), hn]
end Sg
set_option Elab.async false
set_option linter.all false
set_option maxRecDepth 100000
set_option maxHeartbeats 4000000
namespace Sg
open PySem PySem.Spec PyProof.Rows L2
/-! ## how many different tuples of ints a list has -/
theorem nodup_len_le {α : Type} [DecidableEq α] : ∀ (l D : List α), l.Nodup → (∀ x ∈ l, x ∈ D) → l.length ≤ D.length
  | [], _, _, _ => Nat.zero_le _
  | x :: r, D, h, s => by
    obtain ⟨h1, h2⟩ := List.nodup_cons.mp h
    have hx := s x List.mem_cons_self
    have := nodup_len_le r (D.erase x) h2 fun y hy => (List.mem_erase_of_ne (fun e => h1 (by rw [← e]; exact hy))).mpr (s y (List.mem_cons_of_mem _ hy))
    rw [List.length_erase_of_mem hx] at this
    have := List.length_pos_of_mem hx
    rw [List.length_cons]
    omega
end Sg
set_option Elab.async false
set_option linter.all false
set_option maxRecDepth 100000
set_option maxHeartbeats 4000000
namespace Sg
open PySem PySem.Spec PyProof.Rows L2 StX
/-! ## data compared -/
theorem eqv_ints : ∀ (xs ys : List Int), PyData.eqvAll (iD xs) (iD ys) = decide (xs = ys)
  | [], [] => by simp [PyData.eqvAll]
  | [], _ :: _ => by simp [PyData.eqvAll]
  | _ :: _, [] => by simp [PyData.eqvAll]
  | x :: xs, y :: ys => by
    show PyData.eqvAll (.int x :: iD xs) (.int y :: iD ys) = _
    rw [PyData.eqvAll, eqv_ints xs ys, PyData.eqv]
    by_cases h : x = y
    · subst h; simp
    · simp [h]
theorem eqv_tD (xs ys : List Int) : PyData.eqv (tD xs) (tD ys) = decide (xs = ys) := by
  show PyData.eqv (.tuple (iD xs)) (.tuple (iD ys)) = _
  rw [PyData.eqv, eqv_ints]
theorem eqv_tDs : ∀ (xs ys : List (List Int)), PyData.eqvAll (tDs xs) (tDs ys) = decide (xs = ys)
  | [], [] => by simp [PyData.eqvAll]
  | [], _ :: _ => by simp [PyData.eqvAll]
  | _ :: _, [] => by simp [PyData.eqvAll]
  | x :: xs, y :: ys => by
    show PyData.eqvAll (tD x :: tDs xs) (tD y :: tDs ys) = _
    rw [PyData.eqvAll, eqv_tDs xs ys, eqv_tD]
    by_cases h : x = y
    · subst h; simp
    · simp [h]
theorem lay_iD : ∀ (xs : List Int), PyData.canLayAll0 (iD xs) = true
  | [] => by simp [PyData.canLayAll0]
  | x :: r => by
    show PyData.canLayAll0 (.int x :: iD r) = true
    rw [PyData.canLayAll0, lay_iD r, PyData.canLay0]; rfl
theorem dep_iD : ∀ (xs : List Int), PyData.depthAll (iD xs) = 0
  | [] => by simp [PyData.depthAll]
  | x :: r => by
    show PyData.depthAll (.int x :: iD r) = 0
    rw [PyData.depthAll, dep_iD r, PyData.depth]; rfl
theorem shaped_tD (xs : List Int) : SeqAt.shaped (tD xs) = true := by
  unfold SeqAt.shaped
  have a : (tD xs).canLay0 = true := by show PyData.canLay0 (.tuple (iD xs)) = true; rw [PyData.canLay0, lay_iD]
  have b : (tD xs).depth ≤ 64 := by show PyData.depth (.tuple (iD xs)) ≤ 64; rw [PyData.depth, dep_iD]; decide
  rw [a, decide_eq_true b]; rfl
theorem lay_tDs : ∀ (xs : List (List Int)), PyData.canLayAll0 (tDs xs) = true
  | [] => by simp [PyData.canLayAll0]
  | x :: r => by
    show PyData.canLayAll0 (.tuple (iD x) :: tDs r) = true
    rw [PyData.canLayAll0, lay_tDs r, PyData.canLay0, lay_iD]; rfl
theorem dep_tDs : ∀ (xs : List (List Int)), PyData.depthAll (tDs xs) ≤ 1
  | [] => by simp [PyData.depthAll]
  | x :: r => by
    show PyData.depthAll (.tuple (iD x) :: tDs r) ≤ 1
    rw [PyData.depthAll, PyData.depth, dep_iD]
    exact Nat.max_le.mpr ⟨Nat.le_refl _, dep_tDs r⟩
theorem shaped_tDs (xs : List (List Int)) : SeqAt.shaped (.tuple (tDs xs)) = true := by
  unfold SeqAt.shaped
  have a : (PyData.tuple (tDs xs)).canLay0 = true := by rw [PyData.canLay0, lay_tDs]
  have b : (PyData.tuple (tDs xs)).depth ≤ 64 := by rw [PyData.depth]; have := dep_tDs xs; omega
  rw [a, decide_eq_true b]; rfl
end Sg
namespace Sg
open PySem PySem.Spec PyProof.Rows L2 StX
/-- a call of a def by names alone, in their order -/
def kwI {α : Type} : List α → List α → List α
  | [], ws => ws
  | _ :: _, _ => []
theorem kwI_rel {vs : List V} {us : List Value} {zs : List V} {ws : List Value} (r : Vals vs us) (rz : Vals zs ws) : Vals (kwI vs zs) (kwI us ws) := by
  cases r with
  | nil => exact rz
  | cons a r1 => exact .nil
section
variable {X : Cx} {CX : CXT} {k : Nat} {f : Addr} {fd : FuncData} {ps ks : List Str} {sp : Sp} {E : XK} {x : Str} {p pos : Pos} {kws : List Keyword} {tk : TA} {g : List Value → List Value → List Value} {gV : List V → List V → List V}
theorem pe_callK0 (F : FnOk X.prog X.w X.K X.mg X.base CX k f fd ps sp) (hr : Room k X.A) (hg : Gl X x) (hm : X.mg x = some (.ref f)) (hk : PySem.W.keepIn X.K (.ref f) = true) (hb : KBinds X.K fd ps ks g gV) (hx : Passes CX X E) (hkw : PK X kws tk)
    (ha : (backToKw pos (keywordEach kws X.env)).all (·.1.isSome) = true := by rfl) (hs : (backToKw pos (keywordEach kws X.env)).filterMap (·.1) = ks := by rfl) (hd : (x == ("__debug__" : Str)) = false := by decide)
    (hp : ((backTo pos (starEach [] X.env)).any (·.1) || (backToKw pos (keywordEach kws X.env)).any (·.1.isNone)) = false := by rfl) : PE X (.Call (.Name x p) [] kws pos) (tCallK sp gV E tNil tk) := by
  refine ⟨fun pins s σ H Q I h => wpAny_Call_Name_kw (ld_glob I hg hm ?_ hd)⟩
  refine PySem.W.callWith_KW0 (h₀ := X.base) I.ok.mod.kin hk ha ?_ hp
  refine thn (hkw.run pos pins s σ H _ I h) fun ws s2 ⟨zs, H2, I2, rz, q2⟩ => ⟨I2.kIn, ?_⟩
  rw [hs]
  exact run_fnk (us := []) (vs := []) F hr hb hx I2 .nil rz q2
end
end Sg
set_option Elab.async false
set_option linter.all false
set_option maxRecDepth 100000
set_option maxHeartbeats 4000000
namespace Sg
open PySem PySem.Spec PyProof.Rows L2
/-! ## set(list of ints), and sorted(..) of it -/
section
variable {P : Program} {w : World} {A : Around} {E : Value → Shared → Prop} {s : Shared}
/-- a set just made -/
abbrev noneIn (w : World) : Obj := ⟨.type "set", none, .set #[] 0 (.fresh 0 0 (!w.params.followText "set-order")), #[]⟩
/-- what is there once the list has been gone through -/
def Filled (w : World) (s : Shared) (ns : List Int) (s2 : Shared) : Prop :=
  ∃ (g : Heap) (u m : Nat), s2 = { s with heap := g, toks := u } ∧ m ≤ ns.length ∧ SetR w g s.heap.objs.size (fun j => decide (j ∈ ns)) m ∧ ∀ b o, s.heap.get? b = some o → g.get? b = some o
theorem fill_list {l : Addr} {its : Array Value} {ns : List Int} (hh : A.handled = none) (hl : s.heap.IsList l its) (hi : IntsAre its.toList ns) (hb : ns.length + 1 < scanBound) :
    wpAny (model P w) A (Builtin.«set.__init__» ⟨[.ref s.heap.objs.size, .ref l], []⟩) (fun r s2 => r = Fin.done (.ret .none) ∧ Filled w s ns s2) E { s with heap := s.heap.push (noneIn w) } := by
  have size : its.size = ns.length := by rw [← Array.length_toList]; exact hi.length
  obtain ⟨⟨c0, d0, q0, z0⟩, ho, e1, m0, e2⟩ := hl
  cases e1
  cases e2
  have at1 := Heap.get?_push_of_some (noneIn w) ho
  have atS : (s.heap.push (noneIn w)).get? s.heap.objs.size = some (noneIn w) := Heap.get?_push_size _ rfl
  have more : l < s.heap.objs.size := Heap.lt_size ho
  have k1 := F.sub_list_set
  have k2 := F.sub_list_frozenset
  have k3 : (Value.type "list" == Value.type "dict") = false := by decide
  have isL : (s.heap.push (noneIn w)).IsList l its := ⟨_, at1, rfl, m0, rfl⟩
  have long : (s.heap.push (noneIn w)).objs.size = s.heap.objs.size + 1 := Heap.size_push ..
  unfold Builtin.«set.__init__» noKeywords Builtin.Frozenset.updateFrom
  generalize gI : pyIter = PI
  wp_walk
  subst gI
  refine wpAny_pyIter_list isL (wpAny_bind (wpAny_runValue ?_))
  have apart : l ≠ (s.heap.push (noneIn w)).objs.size := by
    rw [long]
    exact fun z => Nat.ne_of_lt (Nat.lt_succ_of_lt more) z
  have off : s.heap.objs.size ∉ [(s.heap.push (noneIn w)).objs.size, l] := by
    rw [long]
    intro z
    rcases List.mem_cons.mp z with z | z
    · exact Nat.ne_of_lt (Nat.lt_succ_self _) z
    · exact Nat.ne_of_gt more (List.mem_singleton.mp z)
  have each : ∀ (i : Nat) (v : Value), its[i]? = some v → ∃ k t, ns[i]? = some k ∧ v = .int k t := fun i v hv => by
    have lt : i < ns.length := size ▸ (Array.getElem?_eq_some_iff.mp hv).1
    obtain ⟨t, e⟩ := hi.int_at i v (by rw [Array.getElem?_toList]; exact hv)
    refine ⟨ns[i], t, List.getElem?_eq_getElem lt, ?_⟩
    rw [e, List.getD_eq_getElem?_getD, List.getElem?_eq_getElem lt]; rfl
  refine set_update_ints ((Walks.list (by simp [hh]) _ l apart its).toS) s.heap.objs.size off ns size hb each its.size 0 _ (Nat.sub_zero _) (Nat.zero_le _)
    ⟨⟨_, Heap.get?_push_size _ rfl, rfl, rfl⟩, isL.push _⟩ ⟨0, Nat.le_refl 0, setR_new_at (Heap.get?_push_of_some _ atS)⟩ ?_
  rintro ⟨g, g2, d2, u2, o2⟩ m mv hm R
  obtain rfl : g2 = s.gens := mv.gens
  obtain rfl : d2 = s.drawn := mv.drawn
  obtain rfl : o2 = s.os := mv.os
  refine wpAny_pure (wpAny_pure ⟨rfl, g, u2, m, rfl, size ▸ hm, R, fun b o e => ?_⟩)
  have lt := Heap.lt_size e
  refine mv.heap b o (fun z => ?_) (Heap.get?_push_of_some _ (Heap.get?_push_of_some _ e))
  rcases List.mem_cons.mp z with z | z
  · exact Nat.ne_of_lt lt z
  · have y := List.mem_singleton.mp z
    rw [long] at y
    exact Nat.ne_of_lt (Nat.lt_succ_of_lt lt) y
theorem call_set_ints {l : Addr} {its : Array Value} {ns : List Int} {Q : Value → Shared → Prop} (hh : A.handled = none) (hl : s.heap.IsList l its) (hi : IntsAre its.toList ns) (hb : ns.length + 1 < scanBound)
    (q : ∀ s2, Filled w s ns s2 → Q (.ref s.heap.objs.size) s2) : wpAny (model P w) A (call (.type "set") [.ref l]) Q E s := by
  obtain ⟨top, rest, line⟩ := F.called_set.mro
  have c1 := F.called_set.made
  have c2 := F.called_set.sub
  have c3 := F.called_set.notType
  have c4 := F.called_set.canCreate
  have c5 := F.typeCall_set_1 (.ref l)
  have c6 := F.called_set.init.lookup
  refine wpAny_call (codeAny_of_tree (wpAny_pure ⟨Code.quiet_builtin _ (by decide +kernel), codeAny_builtin F.entry_type_call ?_⟩))
  rw [Around.under_plain (weight_type_call_type "set" [.ref l] []) rfl]
  repeat any_goals first | assumption | wp_step
  have made : (s.heap.push (noneIn w)).get? s.heap.objs.size = some (noneIn w) := Heap.get?_push_size _ rfl
  refine codeAny_mono (code_set_led1 (.ref l) (E := E) (Q₁ := fun v s1 => v = .ref s.heap.objs.size ∧ s1 = { s with heap := s.heap.push (noneIn w) }) ⟨rfl, rfl⟩) fun r s1 hr => ?_
  rcases r with e | fl
  · exact hr
  cases fl
  case ret v =>
    obtain ⟨rfl, rfl⟩ := hr
    have c7 := F.called_set.init.bind (.ref s.heap.objs.size)
    have isS : Shared.TypeIs { s with heap := s.heap.push (noneIn w) } (.ref s.heap.objs.size) "set" := ⟨_, made, rfl⟩
    repeat any_goals first | assumption | wp_step
    refine codeAny_mono (codeAny_call_builtin (R := wants (fun r s2 => r = .none ∧ Filled w s ns s2) E) F.called_set.init.plain F.entry_set_init (check_set_init_1 isS ?_)) fun r s2 hr => ?_
    · refine thn (fill_list (by simp [hh]) hl hi hb) ?_
      rintro v s3 ⟨rfl, f⟩
      exact ⟨rfl, f⟩
    rcases r with e | fl
    · exact hr
    cases fl
    case ret v =>
      obtain ⟨rfl, f⟩ := hr
      repeat any_goals first | assumption | wp_step
      exact q _ f
    all_goals exact hr.elim
  all_goals exact hr.elim
end
section
variable {X : Cx}
/-- no more members than any list that has them all -/
theorem setR_most {w : World} {h : Heap} {a : Addr} {S : Int → Bool} {n : Nat} (R : SetR w h a S n) (D : List Int) (hD : ∀ k, S k = true → k ∈ D) : n ≤ D.length := by
  obtain ⟨o, es, ep, t, _, _, _, _, nd, mem, _, _, rfl, _⟩ := R
  have := nodup_len_le (es.toList.map keyOf) D nd fun k hk => hD k ((mem k).mpr hk)
  rwa [List.length_map, Array.length_toList] at this
def rSetL (K : PySem.W.Frag) (w : World) : List V → Hp → VK → Prop := fun xs H Q => ∃ (l : Addr) (ns : List Int), xs = [V.ref l] ∧ SqL K H l (ns.map V.int) ∧ ns.length ≤ 4000 ∧
  ∀ (p : Addr) (n : Nat), H p = none → (∀ D : List Int, (∀ k ∈ ns, k ∈ D) → n ≤ D.length) → Q (.ref p) (upd H p (SetO w p (fun j => decide (j ∈ ns)) n))
theorem cr_setL (hc : X.calm = true) : CallR X (.type "set") (rSetL X.K X.w) := by
  intro pins s σ H xs us Q I r h
  obtain ⟨l, ns, rfl, hl, lt, q⟩ := h
  rw [Vals.ref1 r]
  obtain ⟨its, rv, pl, hz⟩ := I.list hl
  refine call_set_ints (P := X.prog) (w := X.w) (ns := ns) (I.ok.hd hc) pl.isList (by simpa using ints_of_vals rv) (by unfold scanBound; omega) ?_
  rintro _ ⟨g, u, m, rfl, hm, R, k⟩
  exact ⟨.ref _, _, I.laid (t' := u) k (Nat.le_refl _) (setO_new R), rfl, q _ m (I.hok.fresh (Nat.le_refl _)) fun D hD => setR_most R D fun j hj => hD j (of_decide_eq_true hj)⟩
end
end Sg
set_option Elab.async false
set_option linter.all false
set_option maxRecDepth 100000
set_option maxHeartbeats 4000000
namespace Sg
open PySem PySem.Spec PyProof.Rows L2
/-! ## keys that are tuples of tuples -/
mutual
/-- the value v is the key k: an int, or a tuple of keys -/
inductive KeyAt (H : Hp) : NestedKey → V → Prop
  | int (i : Int) : KeyAt H (.num i) (.int i)
  | tup {a : Addr} {us : List V} {ks : List NestedKey} : H a = some (.tup us) → KeyAll H ks us → KeyAt H (.tup ks) (.ref a)
inductive KeyAll (H : Hp) : List NestedKey → List V → Prop
  | no : KeyAll H [] []
  | on {k : NestedKey} {v : V} {ks : List NestedKey} {us : List V} : KeyAt H k v → KeyAll H ks us → KeyAll H (k :: ks) (v :: us)
end
mutual
theorem KeyAt.keep {H H' : Hp} (e : ∀ a us, H a = some (.tup us) → H' a = some (.tup us)) : ∀ {k : NestedKey} {v : V}, KeyAt H k v → KeyAt H' k v
  | _, _, .int i => .int i
  | _, _, .tup h r => .tup (e _ _ h) (KeyAll.keep e r)
theorem KeyAll.keep {H H' : Hp} (e : ∀ a us, H a = some (.tup us) → H' a = some (.tup us)) : ∀ {ks : List NestedKey} {us : List V}, KeyAll H ks us → KeyAll H' ks us
  | _, _, .no => .no
  | _, _, .on a r => .on (KeyAt.keep e a) (KeyAll.keep e r)
end
mutual
theorem KeyAt.is {P : Program} {w : World} {H : Hp} {h : Heap} (ok : HOk P w H h) : ∀ {k : NestedKey} {v : V} {u : Value}, KeyAt H k v → RelV v u → NestedIs h k u
  | _, _, u, .int i, r => by
    obtain ⟨t, rfl⟩ := r
    exact .int i t
  | _, _, u, .tup (a := a) h' q, r => by
    obtain rfl : u = Value.ref a := r
    obtain ⟨_, its, rv, o, h1, h2, n, h3⟩ := (show ObjOk P w H h a (.tup _) from ok a _ h')
    exact .tup h1 h2 h3 (by rw [List.toList_toArray]; exact KeyAll.is ok q rv)
theorem KeyAll.is {P : Program} {w : World} {H : Hp} {h : Heap} (ok : HOk P w H h) : ∀ {ks : List NestedKey} {us : List V} {its : List Value}, KeyAll H ks us → Vals us its → NestedAll h ks its
  | _, _, _, .no, .nil => .nil
  | _, _, _, .on a r, .cons b q => .cons (KeyAt.is ok a b) (KeyAll.is ok r q)
end
/-! ## a dict with such keys: its rows (key, where the key stands, value) -/
abbrev Row := NestedKey × Addr × V
def DN (P : Program) (w : World) (a : Addr) (rs : List Row) : HO := .ext fun h => rs.length ≤ sizeLine ∧ (a == sysModules) = false ∧
  ∃ ys : List (NestedKey × Addr × Value), Paired (fun r y => r.1 = y.1 ∧ r.2.1 = y.2.1 ∧ RelV r.2.2 y.2.2) rs ys ∧
    ∃ o es ep, h.get? a = some o ∧ o.ExactDict ∧ o.data = .dict es ep ∧ es.toList = ys.map (entryOfKey (nestedKind P w)) ∧ (ys.map (·.1)).Nodup
def KeysIn (H : Hp) (rs : List Row) : Prop := ∀ r ∈ rs, KeyAt H r.1 (.ref r.2.1) ∧ r.1.depth ≤ 8
theorem KeysIn.keep {H H' : Hp} {rs : List Row} (h : KeysIn H rs) (e : ∀ a us, H a = some (.tup us) → H' a = some (.tup us)) : KeysIn H' rs := fun r hr => ⟨(h r hr).1.keep e, (h r hr).2⟩
def atN (rs : List Row) (k : NestedKey) : Option V := (rs.find? fun r => decide (r.1 = k)).map (·.2.2)
def storeN (rs : List Row) (k : NestedKey) (b : Addr) (v : V) : List Row := if (atN rs k).isSome then rs.map fun r => if r.1 = k then (r.1, r.2.1, v) else r else rs ++ [(k, b, v)]
abbrev RowRel : Row → NestedKey × Addr × Value → Prop := fun r y => r.1 = y.1 ∧ r.2.1 = y.2.1 ∧ RelV r.2.2 y.2.2
theorem atN_rel {rs : List Row} {ys : List (NestedKey × Addr × Value)} (r : Paired RowRel rs ys) (k : NestedKey) : RelO (atN rs k) ((atKey ys k).map (·.2)) := by
  induction r with
  | nil => exact True.intro
  | @cons p q ps qs h t ih =>
    by_cases e : p.1 = k
    · have e' : q.1 = k := h.1.symm.trans e
      have a : atN (p :: ps) k = some p.2.2 := by simp [atN, List.find?_cons, e]
      have b : atKey (q :: qs) k = some q.2 := by simp [atKey, List.find?_cons, e']
      rw [a, b]; exact h.2.2
    · have e' : ¬ q.1 = k := fun z => e (h.1.trans z)
      have a : atN (p :: ps) k = atN ps k := by simp [atN, List.find?_cons, e]
      have b : atKey (q :: qs) k = atKey qs k := by simp [atKey, List.find?_cons, e']
      rw [a, b]; exact ih
theorem storeN_rel {rs : List Row} {ys : List (NestedKey × Addr × Value)} (r : Paired RowRel rs ys) (k : NestedKey) (b : Addr) {v : V} {u : Value} (rv : RelV v u) : Paired RowRel (storeN rs k b v) (storedH ys k b u) := by
  have e : (atN rs k).isSome = (atKey ys k).isSome := by
    rw [(atN_rel r k).isSome_eq, Option.isSome_map]
  unfold storeN storedH
  rw [e]
  by_cases q : (atKey ys k).isSome = true
  · rw [if_pos q, if_pos q]
    clear e q
    induction r with
    | nil => exact .nil
    | @cons p z ps zs h t ih =>
      rw [List.map_cons, List.map_cons]
      refine .cons ?_ ih
      unfold putAt
      by_cases c : p.1 = k
      · rw [if_pos c, if_pos (h.1.symm.trans c)]; exact ⟨h.1, h.2.1, rv⟩
      · rw [if_neg c, if_neg (fun y => c (h.1.trans y))]; exact h
  · rw [if_neg q, if_neg q]
    exact Paired.snoc r ⟨rfl, rfl, rv⟩
theorem storeN_len (rs : List Row) (k : NestedKey) (b : Addr) (v : V) : (storeN rs k b v).length ≤ rs.length + 1 := by
  unfold storeN
  split
  · rw [List.length_map]; omega
  · rw [List.length_append]; exact Nat.le_refl _
theorem storeN_new {rs : List Row} {k : NestedKey} (h : atN rs k = none) (b : Addr) (v : V) : storeN rs k b v = rs ++ [(k, b, v)] := by
  unfold storeN
  rw [h]; rfl
section
variable {P : Program} {w : World} {H : Hp} {h : Heap} {a : Addr} {rs : List Row}
theorem dn_of (ok : HOk P w H h) (e : H a = some (DN P w a rs)) (ks : KeysIn H rs) : rs.length ≤ sizeLine ∧ (a == sysModules) = false ∧ ∃ ys, Paired RowRel rs ys ∧ h.DictOfH (nestedKind P w) a ys := by
  obtain ⟨z, y, ys, r, o, es, ep, h1, h2, h3, h4, h5⟩ := (ok a _ e).1
  refine ⟨z, y, ys, r, o, es, ep, h1, h2, h3, h4, ?_, h5⟩
  have all : ∀ {l : List Row} {m : List (NestedKey × Addr × Value)}, Paired RowRel l m → KeysIn H l → ∀ x ∈ m, (nestedKind P w).is h x.1 x.2.1 := by
    intro l m q
    induction q with
    | nil => intro _ x hx; exact nomatch hx
    | @cons p q ps qs hq t ih =>
      intro hk x hx
      rcases List.mem_cons.mp hx with e | hx
      · subst e
        obtain ⟨k1, k2⟩ := hk p List.mem_cons_self
        have := k1.is ok (u := .ref p.2.1) rfl
        rw [hq.1, hq.2.1] at this
        exact ⟨this, by rw [← hq.1]; exact k2⟩
      · exact ih (fun r hr => hk r (List.mem_cons_of_mem _ hr)) x hx
  exact all r ks
theorem dn_ok {h' : Heap} {H' : Hp} {ys : List (NestedKey × Addr × Value)} (z : rs.length ≤ sizeLine) (hd : (a == sysModules) = false) (r : Paired RowRel rs ys) (dd : h'.DictOfH (nestedKind P w) a ys) : ObjOk P w H' h' a (DN P w a rs) := by
  obtain ⟨o, es, ep, h1, h2, h3, h4, _, h5⟩ := dd
  exact ⟨⟨z, hd, ys, r, o, es, ep, h1, h2, h3, h4, h5⟩, ⟨o, h1⟩, fun g1 g2 ⟨z, hd, ys, r, o, es, ep, q1, q2⟩ k => ⟨z, hd, ys, r, o, es, ep, k o q1, q2⟩⟩
end
section
variable {X : Cx} {pins : List (Addr × Obj)} {σ : L2.St} {H : Hp} {s : Shared} {a b : Addr} {k : NestedKey} {rs : List Row} {v : V} {r : Value} {A : Around} {E : Value → Shared → Prop}
/-- the key at b is looked for in the dict at a -/
structure NAt (P : Program) (w : World) (H : Hp) (a b : Addr) (k : NestedKey) (rs : List Row) : Prop where
  at_ : H a = some (DN P w a rs)
  keys : KeysIn H rs
  key : KeyAt H k (.ref b)
  deep : k.depth ≤ 8
theorem NAt.is {P : Program} {w : World} {h : Heap} (n : NAt P w H a b k rs) (ok : HOk P w H h) : (nestedKind P w).is h k b := ⟨n.key.is ok rfl, n.deep⟩
theorem roomN (hu : A.units + 64 < cLine) (P : Program) (w : World) : (nestedKind P w).room A.in1 := by
  show A.units + 1 + 8 < cLine
  omega
theorem n_get {Q : Value → Shared → Prop} (hu : A.units + 64 < cLine) (I : Inv X pins σ H s) (n : NAt X.prog X.w H a b k rs) (l : atN rs k = some v) (h : ∀ u s', Inv X pins σ H s' → RelV v u → Q u s') : wpAny (model X.prog X.w) A (getItem (.ref a) (.ref b)) Q E s := by
  obtain ⟨_, _, ys, rel, dd⟩ := dn_of I.hok n.at_ n.keys
  obtain ⟨u, hu', ru⟩ := RelO.some_of (v := v) (o := (atKey ys k).map (·.2)) (by rw [← l]; exact atN_rel rel k)
  obtain ⟨p, hp, hp2⟩ := Option.map_eq_some_iff.mp hu'
  refine wpAny_getItem_heap (roomN hu _ _) (n.is I.hok) dd hp ?_
  rw [hp2]
  exact h u _ (I.tok _) ru
theorem n_notIn {Q : Value → Shared → Prop} (hu : A.units + 64 < cLine) (I : Inv X pins σ H s) (n : NAt X.prog X.w H a b k rs) (h : ∀ s', Inv X pins σ H s' → Q (.bool (!(atN rs k).isSome)) s') : wpAny (model X.prog X.w) A (compareOp .NotIn (.ref b) (.ref a)) Q E s := by
  obtain ⟨_, hd, ys, rel, dd⟩ := dn_of I.hok n.at_ n.keys
  refine wpAny_notIn_heap (roomN hu _ _) (n.is I.hok) hd dd ?_
  have q := (atN_rel rel k).isSome_eq
  rw [Option.isSome_map] at q
  rw [← q]
  exact h _ (I.tok _)
theorem n_set {Q : Unit → Shared → Prop} (hu : A.units + 64 < cLine) (I : Inv X pins σ H s) (n : NAt X.prog X.w H a b k rs) (hl : rs.length < sizeLine) (rv : RelV v r) (h : ∀ s', Inv X pins σ (upd H a (DN X.prog X.w a (storeN rs k b v))) s' → Q () s') :
    wpAny (model X.prog X.w) A (setItem (.ref a) (.ref b) r) Q E s := by
  obtain ⟨z, hd, ys, rel, dd⟩ := dn_of I.hok n.at_ n.keys
  have hz : ys.length ≤ sizeLine := by rw [← Paired.length rel]; exact z
  refine wpAny_setItem_heap (hsz := hz) (roomN hu _ _) (n.is I.hok) dd fun h' dd' hs => h _ ?_
  have he : ∃ q, h'.get? a = some q := let ⟨q, _, _, hq, _⟩ := dd'; ⟨q, hq⟩
  exact d_write I (by rw [n.at_]; exact True.intro) hs he (dn_ok (by have := storeN_len rs k b v; omega) hd (storeN_rel rel k b rv) dd')
end
/-! ### as rules -/
def tNGet (P : Program) (w : World) (td ty : TE) : TE := fun σ H Q => td σ H fun x H1 => ty σ H1 fun y H2 => ∃ a b k rs v, x = .ref a ∧ y = .ref b ∧ NAt P w H2 a b k rs ∧ atN rs k = some v ∧ Q v H2
def tNNotIn (P : Program) (w : World) (ty td : TE) : TE := fun σ H Q => ty σ H fun y H1 => td σ H1 fun x H2 => ∃ a b k rs, x = .ref a ∧ y = .ref b ∧ NAt P w H2 a b k rs ∧ Q (.bl (!(atN rs k).isSome)) H2
def sNPut (P : Program) (w : World) (td ty tv : TE) : TS := fun D σ H => tv σ H fun v H1 => td σ H1 fun x H2 => ty σ H2 fun y H3 => ∃ a b k rs, x = .ref a ∧ y = .ref b ∧ NAt P w H3 a b k rs ∧ rs.length < sizeLine ∧
  D.nx σ (upd H3 a (DN P w a (storeN rs k b v)))
section
variable {X : Cx} {o i e value : Expr} {pos pos' : Pos} {td ty tv : TE}
theorem NAt.typeIs {pins : List (Addr × Obj)} {σ : L2.St} {H : Hp} {s : Shared} {a b : Addr} {k : NestedKey} {rs : List Row} (n : NAt X.prog X.w H a b k rs) (I : Inv X pins σ H s) : s.TypeIs (.ref a) "dict" := by
  obtain ⟨_, _, ys, _, dd⟩ := dn_of I.hok n.at_ n.keys
  exact dd.typeIs
theorem pe_nget (hu : X.A.units + 64 < cLine) (ho : PE X o td) (hi : PE X i ty) (hs : NoSl i) : PE X (.Subscript o i pos) (tNGet X.prog X.w td ty) := by
  refine ⟨fun pins s σ H Q I h => ?_⟩
  refine subD_of PySem.F.slot_dict_getitem.lookup hs (thn (ho.run pins s σ H _ I h) fun u s1 ⟨x, H1, I1, rx, q1⟩ => thn (hi.run pins s1 σ H1 _ I1 q1) fun iv s2 ⟨y, H2, I2, ry, a, b, k, rs, v, ex, ey, n, l, q2⟩ => ?_)
  subst ex ey
  obtain rfl : u = Value.ref a := rx
  obtain rfl : iv = Value.ref b := ry
  exact ⟨n.typeIs I2, n_get hu I2 n l fun u s3 I3 ru => ⟨v, H2, I3, ru, q2⟩⟩
theorem pc_nnotin (hu : X.A.units + 64 < cLine) (hi : PE X i ty) (ho : PE X o td) : PC X .NotIn i o (tNNotIn X.prog X.w ty td) := by
  refine ⟨fun pins s σ H Q I h => ?_⟩
  refine thn (hi.run pins s σ H _ I h) fun iv s1 ⟨y, H1, I1, ry, q1⟩ => thn (ho.run pins s1 σ H1 _ I1 q1) fun u s2 ⟨x, H2, I2, rx, a, b, k, rs, ex, ey, n, q2⟩ => ?_
  subst ex ey
  obtain rfl : u = Value.ref a := rx
  obtain rfl : iv = Value.ref b := ry
  exact n_notIn hu I2 n fun s3 I3 => ⟨.bl _, H2, I3, rfl, q2⟩
theorem ps_nput (hu : X.A.units + 64 < cLine) (ho : PE X o td) (hi : PE X i ty) (hv : PE X value tv) (hs : swapsWith value (some (.Subscript o i pos')) pos.line X.env = pure false) :
    PS X (.Assign [.Subscript o i pos'] value pos) (sNPut X.prog X.w td ty tv) := by
  refine ⟨fun pins s σ H D I h => ?_⟩
  refine wpAny_Assign_Subscript (thn (hv.run pins s σ H _ I h) fun r s1 ⟨v, H1, I1, rv, q1⟩ => thn (ho.run pins s1 σ H1 _ I1 q1) fun u s2 ⟨x, H2, I2, rx, q2⟩ => thn (hi.run pins s2 σ H2 _ I2 q2) fun iv s3 ⟨y, H3, I3, ry, a, b, k, rs, ex, ey, n, hl, q3⟩ => ?_) hs
  subst ex ey
  obtain rfl : u = Value.ref a := rx
  obtain rfl : iv = Value.ref b := ry
  exact n_set hu I3 n hl rv fun s4 I4 => ⟨σ, _, I4, q3⟩
/-- {} -/
def tNNew (P : Program) (w : World) : TE := fun _ H Q => ∀ p, H p = none → Q (.ref p) (upd H p (DN P w p []))
theorem dn_empty {P : Program} {w : World} {H : Hp} (h : Heap) (hb : sysModules < h.objs.size) : ObjOk P w H (h.push { cls := .type "dict", data := .dict #[] }) h.objs.size (DN P w h.objs.size []) :=
  dn_ok (Nat.zero_le _) (beq_eq_false_iff_ne.mpr (Nat.ne_of_gt hb)) .nil (Heap.DictOfH.new h)
end
section
variable {X : Cx} {pos : Pos}
theorem pe_nnew : PE X (.Dict [] [] pos) (tNNew X.prog X.w) := ⟨fun pins s σ H Q I h =>
  wpAny_Dict_empty ⟨.ref s.heap.objs.size, _, I.laid (a := s.heap.objs.size) (o := DN X.prog X.w s.heap.objs.size []) (t' := s.toks) (fun _ _ q => Heap.get?_push_of_some _ q) (Nat.le_refl _) (dn_empty s.heap I.big), rfl, h _ (I.hok.fresh (Nat.le_refl _))⟩⟩
/-- list(d): where its keys stand -/
def rListN (P : Program) (w : World) : List V → Hp → VK → Prop := fun xs H Q => ∃ (a : Addr) (rs : List Row), xs = [.ref a] ∧ H a = some (DN P w a rs) ∧ KeysIn H rs ∧ ∀ p, H p = none → Q (.ref p) (upd H p (.lst (rs.map fun r => V.ref r.2.1)))
theorem cr_listN (hc : X.calm = true) : CallR X (.type "list") (rListN X.prog X.w) := by
  intro pins s σ H xs us Q I r q
  obtain ⟨a, rs, rfl, ha, hk, q⟩ := q
  rw [Vals.ref1 r]
  obtain ⟨z, hd, ys, rel, dd⟩ := dn_of I.hok ha hk
  obtain ⟨es, ep, hraw, hes⟩ := (show ∃ es ep, s.heap.DictRaw a es ep ∧ es.toList = ys.map (entryOfKey (nestedKind X.prog X.w)) from by
    obtain ⟨o, es, ep, h1, h2, h3, h4, _, _⟩ := dd
    exact ⟨es, ep, ⟨o, h1, h2, h3⟩, h4⟩)
  have hsz : es.size = ys.length := size_of_entries hes
  have hlen := Paired.length rel
  refine PySem.W.kdl_call (KdlSrc.rawDict (es := es) (ep := ep) hd) (I.ok.hd hc) hraw (by rw [hsz, ← hlen]; exact z) fun h' tk acc c' hk2 hD hacc => ?_
  have hv : Vals (rs.map fun r => V.ref r.2.1) acc.toList := by
    have key : ∀ (j : Nat) (u : Value), acc.toList[j]? = some u → ∃ y, ys[j]? = some y ∧ u = .ref y.2.1 := fun j u e => by
      obtain ⟨hi, e2⟩ := hacc.2 j u (by rw [← Array.getElem?_toList]; exact e)
      have h3 := entry_at hes j
      rw [Array.getElem?_eq_getElem hi] at h3
      obtain ⟨y, hy, h4⟩ := Option.map_eq_some_iff.mp h3.symm
      refine ⟨y, hy, ?_⟩
      rw [e2, ← h4]; rfl
    have hl : acc.toList.length = rs.length := by rw [Array.length_toList, hacc.1, hsz, hlen]
    clear hraw hes dd hacc hD hk2 hk ha q
    have gen : ∀ (rs : List Row) (ys : List (NestedKey × Addr × Value)) (us : List Value), Paired RowRel rs ys → us.length = rs.length → (∀ (j : Nat) (u : Value), us[j]? = some u → ∃ y, ys[j]? = some y ∧ u = .ref y.2.1) → Vals (rs.map fun r => V.ref r.2.1) us := by
      intro rs ys us r
      induction r generalizing us with
      | nil =>
        intro hl _
        rw [List.eq_nil_of_length_eq_zero hl]
        exact .nil
      | @cons p q ps qs hpq t ih =>
        intro hl hk
        cases us with
        | nil => exact nomatch hl
        | cons u us =>
          obtain ⟨y, hy, e⟩ := hk 0 u rfl
          obtain rfl : q = y := Option.some.inj hy
          refine .cons ?_ (ih us (Nat.succ.inj hl) fun j u' e' => hk (j + 1) u' e')
          rw [e, ← hpq.2.1]; rfl
    exact gen rs ys _ rel hl key
  exact ⟨.ref s.heap.objs.size, _, I.laid (t' := tk) hk2 (Nat.le_refl _)
    (show ObjOk X.prog X.w _ _ _ (.lst (rs.map fun r => V.ref r.2.1)) from ⟨by rw [List.length_map]; exact z, acc.toList, c', hv, by rw [Array.toArray_toList]; exact hD⟩), rfl, q _ (I.hok.fresh (Nat.le_refl _))⟩
/-! ## sorted(list of data that are alike) -/
theorem each_vals {pins : List (Addr × Obj)} {σ : L2.St} {H : Hp} {s : Shared} (I : Inv X pins σ H s) : ∀ {ys : List V} {ds : List PyData} {its : List Value}, DpAll X.K H ys ds → Vals ys its →
    PySem.W.EachIs (fun u (b : V × PyData) => RelV b.1 u) its (ys.zip ds) ∧ PySem.W.EachIs (fun u (b : V × PyData) => ∃ as, Reads s.heap u b.2 as) its (ys.zip ds)
  | _, _, _, .nil, .nil => ⟨.nil, .nil⟩
  | _, _, _, .cons a r, .cons b q => by
    obtain ⟨h1, h2⟩ := each_vals I r q
    exact ⟨.cons b h1, .cons (Dp.reads I _ _ _ a b) h2⟩
theorem vals_each {its : List Value} {bs : List (V × PyData)} (h : PySem.W.EachIs (fun u (b : V × PyData) => RelV b.1 u) its bs) : Vals (bs.map (·.1)) its := by
  induction h with
  | nil => exact .nil
  | cons a r ih => exact .cons a ih
def rSortedD (K : PySem.W.Frag) : List V → Hp → VK → Prop := fun xs H Q => ∃ (a : Addr) (ys : List V) (ds : List PyData), xs = [.ref a] ∧ SqL K H a ys ∧ DpAll K H ys ds ∧ PySem.W.AllAlike ds ∧ PySem.W.Sortable ds ∧ (∀ d ∈ ds, d.depth ≤ 40) ∧
  ∀ (bs : List (V × PyData)) (p : Addr), bs = (ys.zip ds).mergeSort (PySem.W.dataLe false (·.2)) → H p = none → Q (.ref p) (upd H p (.lst (bs.map (·.1))))
theorem dpAll_len {K : PySem.W.Frag} {H : Hp} : ∀ {ys : List V} {ds : List PyData}, DpAll K H ys ds → ys.length = ds.length
  | _, _, .nil => rfl
  | _, _, .cons _ r => congrArg (· + 1) (dpAll_len r)
theorem zip_snd {α β : Type} : ∀ {xs : List α} {ys : List β}, xs.length = ys.length → (xs.zip ys).map (·.2) = ys
  | [], [], _ => rfl
  | x :: xs, y :: ys, h => by
    show y :: (xs.zip ys).map (·.2) = y :: ys
    rw [zip_snd (Nat.succ.inj h)]
theorem cr_sortedD {j : Nat} (hr : Room j X.A) : CallR X (.builtin "sorted") (rSortedD X.K) := by
  intro pins s σ H xs us Q I r h
  obtain ⟨a, ys, ds, rfl, hs, hd, hal, hso, hdp, q⟩ := h
  rw [Vals.ref1 r]
  obtain ⟨its, rv, hl, hz⟩ := I.list hs
  obtain ⟨h1, h2⟩ := each_vals I hd rv
  have ln := dpAll_len hd
  have e2 := zip_snd ln
  have hu := hr.units
  refine PySem.W.sorted_data (enc := fun b : V × PyData => b.2) hl.isList h1 h2 (by rw [e2]; exact hal) (by rw [e2]; exact hso) (by rw [List.length_zip, ← ln, Nat.min_self]; exact hz) (fun b hb => ?_) fun out lo eo => ?_
  · have := hdp b.2 (by rw [← e2]; exact List.mem_map.mpr ⟨b, hb, rfl⟩)
    omega
  obtain ⟨c, hc⟩ := sortedAll_at s.heap its out.toArray
  have hv := vals_each eo
  have hlen : (((ys.zip ds).mergeSort (PySem.W.dataLe false fun b : V × PyData => b.2)).map (·.1)).length ≤ sizeLine := by
    rw [List.length_map, List.length_mergeSort, List.length_zip, ← ln, Nat.min_self]; exact hz
  exact ⟨.ref (s.heap.objs.size + 1), _, I.laid (t' := s.toks) (fun _ _ e => sortedAll_old e) (Nat.le_succ _) (show ObjOk X.prog X.w _ _ _ (.lst _) from ⟨hlen, out, c, hv, hc⟩), rfl, q _ _ rfl (I.hok.fresh (Nat.le_succ _))⟩
/-! ## in, not in a tuple of data -/
end
section
variable {X : Cx} {P : Program} {w : World} {o i e value : Expr} {pos pos' : Pos} {td ty tv : TE}
/-! the same, with program and world named -/
theorem pe_nnewK (hP : X.prog = P) (hw : X.w = w) : PE X (.Dict [] [] pos) (tNNew P w) := by subst hP hw; exact pe_nnew
theorem pe_ngetK (hP : X.prog = P) (hw : X.w = w) (hu : X.A.units + 64 < cLine) (ho : PE X o td) (hi : PE X i ty) (hs : NoSl i) : PE X (.Subscript o i pos) (tNGet P w td ty) := by subst hP hw; exact pe_nget hu ho hi hs
theorem pc_nnotinK (hP : X.prog = P) (hw : X.w = w) (hu : X.A.units + 64 < cLine) (hi : PE X i ty) (ho : PE X o td) : PC X .NotIn i o (tNNotIn P w ty td) := by subst hP hw; exact pc_nnotin hu hi ho
theorem ps_nputK (hP : X.prog = P) (hw : X.w = w) (hu : X.A.units + 64 < cLine) (ho : PE X o td) (hi : PE X i ty) (hv : PE X value tv) (hs : swapsWith value (some (.Subscript o i pos')) pos.line X.env = pure false) :
    PS X (.Assign [.Subscript o i pos'] value pos) (sNPut P w td ty tv) := by subst hP hw; exact ps_nput hu ho hi hv hs
theorem cr_listNK (hP : X.prog = P) (hw : X.w = w) (hc : X.calm = true) : CallR X (.type "list") (rListN P w) := by subst hP hw; exact cr_listN hc
end
end Sg
set_option Elab.async false
set_option linter.all false
set_option maxRecDepth 100000
set_option maxHeartbeats 4000000
set_option Elab.async false
set_option linter.all false
set_option maxRecDepth 100000
set_option maxHeartbeats 4000000
namespace Sg
open PySem PySem.Spec PyProof.Rows L2
/-! ## any data -/
mutual
theorem Dp.same {K : PySem.W.Frag} {H H' : Hp} (e : Same H H') : ∀ {v : V} {d : PyData}, Dp K H v d → Dp K H' v d
  | _, _, .non => .non
  | _, _, .bl b => .bl b
  | _, _, .int i => .int i
  | _, _, .str x => .str x
  | _, _, .lst h r => .lst (e.seq h) (DpAll.same e r)
  | _, _, .tup h r => .tup (Same.tup e h) (DpAll.same e r)
theorem DpAll.same {K : PySem.W.Frag} {H H' : Hp} (e : Same H H') : ∀ {vs : List V} {ds : List PyData}, DpAll K H vs ds → DpAll K H' vs ds
  | _, _, .nil => .nil
  | _, _, .cons a r => .cons (Dp.same e a) (DpAll.same e r)
end
theorem DpAll.app {K : PySem.W.Frag} {H : Hp} : ∀ {vs us : List V} {ds es : List PyData}, DpAll K H vs ds → DpAll K H us es → DpAll K H (vs ++ us) (ds ++ es)
  | _, _, _, _, .nil, g => g
  | _, _, _, _, .cons a r, g => .cons a (DpAll.app r g)
theorem DpAll.len {K : PySem.W.Frag} {H : Hp} : ∀ {vs : List V} {ds : List PyData}, DpAll K H vs ds → vs.length = ds.length
  | _, _, .nil => rfl
  | _, _, .cons _ r => congrArg (· + 1) (DpAll.len r)
theorem DpAll.at {K : PySem.W.Frag} {H : Hp} : ∀ {vs : List V} {ds : List PyData} {i : Nat} {v : V}, DpAll K H vs ds → vs[i]? = some v → ∃ d, ds[i]? = some d ∧ Dp K H v d
  | _, _, _, _, .nil, h => nomatch h
  | _, _, 0, _, .cons a _, h => by cases h; exact ⟨_, rfl, a⟩
  | _, _, i + 1, _, .cons _ r, h => DpAll.at (i := i) r h
theorem DpAll.mem {K : PySem.W.Frag} {H : Hp} {vs : List V} {ds : List PyData} (h : DpAll K H vs ds) {v : V} (hv : v ∈ vs) : ∃ d ∈ ds, Dp K H v d := by
  obtain ⟨i, hi⟩ := List.mem_iff_getElem?.mp hv
  obtain ⟨d, h1, h2⟩ := DpAll.at h hi
  exact ⟨d, List.mem_of_getElem? h1, h2⟩
/-! ints and tuples of them: nothing that changes is read -/
/-- a dict: empty, or one int for one value of ints and tuples -/
inductive DicD (K : PySem.W.Frag) (H : Hp) : List (L2.Key × V) → List (PyData × PyData) → Prop
  | no : DicD K H [] []
  | one {i : Int} {v : V} {d : PyData} : Tp K H v d → DicD K H [(.inl i, v)] [(.int i, d)]
/-- any data: a dict at most on top -/
inductive Aq (K : PySem.W.Frag) (H : Hp) : V → PyData → Prop
  | data {v : V} {d : PyData} : Dp K H v d → Aq K H v d
  | dic {a : Addr} {kvs : List (L2.Key × V)} {ds : List (PyData × PyData)} : H a = some (.dK kvs) → DicD K H kvs ds → Aq K H (.ref a) (.dict ds)
theorem Aq.same {K : PySem.W.Frag} {H H' : Hp} (e : Same H H') {v : V} {d : PyData} (h : Aq K H v d) : Aq K H' v d := by
  cases h with
  | data h => exact .data (Dp.same e h)
  | dic h g =>
    refine .dic (e _ _ h) ?_
    cases g with
    | no => exact .no
    | one t => exact .one (t.stay (.of e))
/-- what may be shown -/
structure GoodD (d : PyData) : Prop where
  sh : d.showable = true
  dp : d.depth ≤ 40
  lv : d.leavesShort 24 = true
  bk : d.bulk ≤ 400000
theorem GoodD.short {d : PyData} (h : GoodD d) : d.shown.length ≤ sizeLine := by
  have h1 := PyData.shown_le_bulk 24 (by decide) d h.lv
  have h2 := h.bk
  have h4 : sizeLine = 16777216 := sizeLine_eq
  omega
/-- some data that may be shown -/
def AnyV (K : PySem.W.Frag) (H : Hp) (v : V) : Prop := ∃ d, Aq K H v d ∧ GoodD d
theorem AnyV.same {K : PySem.W.Frag} {H H' : Hp} (e : Same H H') {v : V} (h : AnyV K H v) : AnyV K H' v := by
  obtain ⟨d, h1, h2⟩ := h
  exact ⟨d, h1.same e, h2⟩
def AllAny (K : PySem.W.Frag) (H : Hp) (vs : List V) : Prop := ∀ v ∈ vs, AnyV K H v
theorem AllAny.same {K : PySem.W.Frag} {H H' : Hp} (e : Same H H') {vs : List V} (h : AllAny K H vs) : AllAny K H' vs := fun v hv => (h v hv).same e
theorem AllAny.app {K : PySem.W.Frag} {H : Hp} {vs us : List V} (h : AllAny K H vs) (g : AllAny K H us) : AllAny K H (vs ++ us) := fun v hv => (List.mem_append.mp hv).elim (h v) (g v)
theorem AllAny.nil {K : PySem.W.Frag} {H : Hp} : AllAny K H [] := fun _ h => nomatch h
theorem AllAny.cons {K : PySem.W.Frag} {H : Hp} {v : V} {vs : List V} (h : AnyV K H v) (g : AllAny K H vs) : AllAny K H (v :: vs) := fun u hu => (List.mem_cons.mp hu).elim (fun e => e ▸ h) (g u)
end Sg
set_option Elab.async false
set_option linter.all false
set_option maxRecDepth 100000
set_option maxHeartbeats 4000000
namespace Sg
open PySem PySem.Spec PyProof.Rows L2
/-! ## isinstance of any data -/
def tyN : PyData → String
  | .none => "NoneType"
  | .bool _ => "bool"
  | .int _ => "int"
  | .str _ => "str"
  | .list _ => "list"
  | .tuple _ => "tuple"
  | .dict _ => "dict"
theorem tyL {K : PySem.W.Frag} {H : Hp} {a : Addr} {xs : List V} (h : SqL K H a xs) : TyX K H (.ref a) (.type "list") := by
  rcases h with (h | ⟨o, h⟩) | ⟨o, _, _, h, hc, _⟩
  · exact .base (.lst h)
  · exact .base (.frz h)
  · exact .kList h hc
theorem aq_ty {K : PySem.W.Frag} {H : Hp} {v : V} {d : PyData} (h : Aq K H v d) : TyX K H v (.type (tyN d)) := by
  cases h with
  | dic h _ => exact .base (.dK h)
  | data h =>
    cases h with
    | non => exact .base .non
    | bl b => exact .base (.bl b)
    | int i => exact .base (.int i)
    | str x => exact .base (.str x)
    | lst h _ => exact tyL h
    | tup h _ => exact tyT h
def isS (u t : String) : Bool := decide (t = u) || (decide (u = "int") && decide (t = "bool"))
/-! ## displays of constants -/
theorem PE.imp {X : Cx} {e : Expr} {t t' : TE} (h : PE X e t) (i : ∀ σ H Q, t' σ H Q → t σ H Q) : PE X e t' := ⟨fun pins s σ H Q I q => h.run pins s σ H Q I (i _ _ _ q)⟩
/-! ### any constant, a list of them -/
end Sg
set_option Elab.async false
set_option linter.all false
set_option maxRecDepth 100000
set_option maxHeartbeats 4000000
namespace Sg
open PySem PySem.Spec PyProof.Rows L2
/-! ## defs that are handed an exception, in an except suite -/
/-- p: the exception's place and object -/
structure FnE (P : Program) (w : World) (K : PySem.W.Frag) (mg : Str → Option Value) (base : Heap) (k : Nat) (f : Addr) (fd : FuncData) (ps : List Str) (sp : Addr × Obj → Sp) : Prop where
  arity : ∀ p vs H Q, sp p vs H Q E0 → vs.length = ps.length
  go : ∀ (A : Around) (outer : List Env) (s : Shared) (H : Hp) (args : Args) (us : List Value) (vs : List V) (Q : VK) (p : Addr × Obj),
    L2H.RoomH k A → L2H.PinOk outer H s p → Env0 P w K mg base A outer s H → BindsTo s fd args (ps.zip us) → Vals vs us → sp p vs H Q E0 →
    codeAny (model P w) A (.call (.ref f) args) (CR CX0 outer P w H s Q E0) s
section
variable {P : Program} {w : World} {K : PySem.W.Frag} {mg : Str → Option Value} {base : Heap} {k : Nat} {f : Addr}
variable {fd : FuncData} {ps : List Str} {sp : Addr × Obj → Sp}
theorem FnE.mono {j : Nat} (F : FnE P w K mg base j f fd ps sp) (h : j ≤ k) : FnE P w K mg base k f fd ps sp :=
  ⟨F.arity, fun A outer s H args us vs Q p hr => F.go A outer s H args us vs Q p (hr.mono h)⟩
end
end Sg
set_option Elab.async false
set_option linter.all false
set_option maxRecDepth 100000
set_option maxHeartbeats 4000000
namespace Sg
open PySem PySem.Spec PyProof.Rows L2
/-! ## tuples whose object is told: their methods -/
def FrzT (H : Hp) (a : Addr) (xs : List V) : Prop := ∃ ob, H a = some (.frz ob (.tup xs)) ∧ ob.cls = .type "tuple" ∧ ob.dict = none
theorem FrzT.sq {K : PySem.W.Frag} {H : Hp} {a : Addr} {xs : List V} (h : FrzT H a xs) : SqT K H a xs := by
  obtain ⟨ob, h1, _⟩ := h
  exact .inl (.inr ⟨ob, h1⟩)
theorem FrzT.same {H H' : Hp} (e : Same H H') {a : Addr} {xs : List V} (h : FrzT H a xs) : FrzT H' a xs := by
  obtain ⟨ob, h1, h2⟩ := h
  exact ⟨ob, e _ _ h1, h2⟩
theorem FrzT.but {p : Addr} {H H' : Hp} (e : But p H H') {a : Addr} {xs : List V} (h : FrzT H a xs) (n : a ≠ p) : FrzT H' a xs := by
  obtain ⟨ob, h1, h2⟩ := h
  exact ⟨ob, e _ _ n h1, h2⟩
end Sg
set_option Elab.async false
set_option linter.all false
set_option maxRecDepth 100000
set_option maxHeartbeats 4000000
namespace Sg
open PySem PySem.Spec PyProof.Rows L2
/-! ## rows of data that may be shown -/
structure SmL (k : Nat) (ds : List PyData) : Prop where
  sh : PyData.showableAll ds = true
  dp : PyData.depthAll ds ≤ 38
  lv : PyData.leavesShortAll 24 ds = true
  bk : PyData.bulkAll ds ≤ k
def smB (k : Nat) (ds : List PyData) : Bool := PyData.showableAll ds && decide (PyData.depthAll ds ≤ 38) && PyData.leavesShortAll 24 ds && decide (PyData.bulkAll ds ≤ k)
theorem smL_by {k : Nat} {ds : List PyData} (h : smB k ds = true) : SmL k ds := by
  unfold smB at h
  simp only [Bool.and_eq_true, decide_eq_true_eq] at h
  exact ⟨h.1.1.1, h.1.1.2, h.1.2, h.2⟩
theorem SmL.le {k m : Nat} {ds : List PyData} (h : SmL k ds) (e : k ≤ m) : SmL m ds := ⟨h.sh, h.dp, h.lv, Nat.le_trans h.bk e⟩
theorem SmL.nil : SmL 0 [] := smL_by (by decide +kernel)
theorem SmL.cons {k m : Nat} {d : PyData} {ds : List PyData} (h : SmL k [d]) (g : SmL m ds) : SmL (k + m) (d :: ds) := by
  have h1 := h.sh; have h2 := h.dp; have h3 := h.lv; have h4 := h.bk
  simp only [PyData.showableAll, PyData.depthAll, PyData.leavesShortAll, PyData.bulkAll, Bool.and_true] at h1 h2 h3 h4
  refine ⟨?_, ?_, ?_, ?_⟩
  · simp only [PyData.showableAll, h1, g.sh, Bool.and_self]
  · simp only [PyData.depthAll]; have := g.dp; omega
  · simp only [PyData.leavesShortAll, h3, g.lv, Bool.and_self]
  · simp only [PyData.bulkAll]; have := g.bk; omega
theorem SmL.uncons {k : Nat} {d : PyData} {ds : List PyData} (h : SmL k (d :: ds)) : SmL k [d] ∧ SmL k ds := by
  have h1 := h.sh; have h2 := h.dp; have h3 := h.lv; have h4 := h.bk
  simp only [PyData.showableAll, PyData.depthAll, PyData.leavesShortAll, PyData.bulkAll, Bool.and_eq_true] at h1 h2 h3 h4
  refine ⟨⟨?_, ?_, ?_, ?_⟩, h1.2, by omega, h3.2, by omega⟩
  · simp only [PyData.showableAll, h1.1, Bool.and_self]
  · simp only [PyData.depthAll]; omega
  · simp only [PyData.leavesShortAll, h3.1, Bool.and_self]
  · simp only [PyData.bulkAll]; omega
theorem SmL.app {k m : Nat} : ∀ {ds es : List PyData}, SmL k ds → SmL m es → SmL (k + m) (ds ++ es)
  | [], _, _, g => g.le (Nat.le_add_left _ _)
  | d :: ds, es, h, g => by
    have h1 := h.sh; have h2 := h.dp; have h3 := h.lv; have h4 := h.bk
    simp only [PyData.showableAll, PyData.depthAll, PyData.leavesShortAll, PyData.bulkAll, Bool.and_eq_true] at h1 h2 h3 h4
    have i := SmL.app (k := PyData.bulkAll ds) ⟨h1.2, by omega, h3.2, Nat.le_refl _⟩ g
    have j := SmL.cons h.uncons.1 i
    refine ⟨j.sh, j.dp, j.lv, ?_⟩
    show PyData.bulkAll (d :: (ds ++ es)) ≤ _
    simp only [PyData.bulkAll]
    have := i.bk
    omega
theorem SmL.drop {k : Nat} : ∀ {ds : List PyData} (i : Nat), SmL k ds → SmL k (ds.drop i)
  | _, 0, h => h
  | [], _ + 1, h => h
  | _ :: _, i + 1, h => SmL.drop i h.uncons.2
theorem SmL.take {k : Nat} : ∀ {ds : List PyData} (i : Nat), SmL k ds → SmL k (ds.take i)
  | _, 0, h => by rw [List.take_zero]; exact SmL.nil.le (Nat.zero_le _)
  | [], _ + 1, h => h
  | d :: ds, i + 1, h => by
    have h4 := h.bk
    simp only [PyData.bulkAll] at h4
    have u := h.uncons
    have t := SmL.take (k := PyData.bulkAll ds) i ⟨u.2.sh, u.2.dp, u.2.lv, Nat.le_refl _⟩
    have j := SmL.cons (k := PyData.bulk d + 1) ⟨u.1.sh, u.1.dp, u.1.lv, by simp only [PyData.bulkAll]; omega⟩ t
    exact j.le h4
theorem SmL.tup {k : Nat} {ds : List PyData} (h : SmL k ds) (e : k ≤ 400000) : GoodD (.tuple ds) :=
  ⟨by simp only [PyData.showable, h.sh], by simp only [PyData.depth]; have := h.dp; omega, by simp only [PyData.leavesShort, h.lv], by simp only [PyData.bulk]; exact Nat.le_trans h.bk e⟩
theorem SmL.lst {k : Nat} {ds : List PyData} (h : SmL k ds) (e : k ≤ 400000) : GoodD (.list ds) :=
  ⟨by simp only [PyData.showable, h.sh], by simp only [PyData.depth]; have := h.dp; omega, by simp only [PyData.leavesShort, h.lv], by simp only [PyData.bulk]; exact Nat.le_trans h.bk e⟩
theorem SmL.one {d : PyData} {k : Nat} (h : GoodD d) (e : d.depth ≤ 38) (b : d.bulk + 1 ≤ k) : SmL k [d] :=
  ⟨by simp only [PyData.showableAll, h.sh, Bool.and_self], by simp only [PyData.depthAll]; omega, by simp only [PyData.leavesShortAll, h.lv, Bool.and_self], by simp only [PyData.bulkAll]; omega⟩
theorem SmL.all {ds : List PyData} (h : ∀ d ∈ ds, SmL 100 [d]) : SmL (ds.length * 100) ds := by
  induction ds with
  | nil => exact SmL.nil.le (Nat.zero_le _)
  | cons d ds ih =>
    refine (SmL.cons (h d List.mem_cons_self) (ih fun x hx => h x (List.mem_cons_of_mem _ hx))).le ?_
    rw [List.length_cons, Nat.add_mul, Nat.one_mul]; omega
theorem DpAll.drop {K : PySem.W.Frag} {H : Hp} : ∀ {vs : List V} {ds : List PyData} (i : Nat), DpAll K H vs ds → DpAll K H (vs.drop i) (ds.drop i)
  | _, _, 0, h => h
  | _, _, _ + 1, .nil => .nil
  | _, _, i + 1, .cons _ r => DpAll.drop i r
theorem DpAll.take {K : PySem.W.Frag} {H : Hp} : ∀ {vs : List V} {ds : List PyData} (i : Nat), DpAll K H vs ds → DpAll K H (vs.take i) (ds.take i)
  | _, _, 0, h => by rw [List.take_zero, List.take_zero]; exact .nil
  | _, _, _ + 1, .nil => .nil
  | _, _, i + 1, .cons a r => .cons a (DpAll.take i r)
theorem DpAll.cut {K : PySem.W.Frag} {H : Hp} {vs : List V} {ds : List PyData} (h : DpAll K H vs ds) {k : Nat} (g : SmL k ds) (lo hi : Option Int) : ∃ es, DpAll K H (cutV vs lo hi) es ∧ SmL k es := by
  unfold cutV
  exact ⟨_, DpAll.take _ (DpAll.drop _ h), SmL.take _ (SmL.drop _ g)⟩
/-! ## l != [] -/
theorem op_neNil {X : Cx} (hu : X.A.units < cLine) : OpR X (compareOp .NotEq) (fun x y H Q => ∃ a b xs, x = .ref a ∧ y = .ref b ∧ SqL X.K H a xs ∧ SqL X.K H b [] ∧ Q (.bl (!xs.isEmpty)) H) := by
  intro pins s σ H x y v u Q I rx ry h
  obtain ⟨a, b, xs, rfl, rfl, h1, h2, q⟩ := h
  cases rx
  cases ry
  obtain ⟨its, rv, pl, hz⟩ := I.list h1
  obtain ⟨its2, rv2, pl2, hz2⟩ := I.list h2
  obtain rfl : its2 = [] := by cases rv2; rfl
  cases xs with
  | nil =>
    obtain rfl : its = [] := by cases rv; rfl
    exact SeqAt.RcNeAt.lists (e := fun _ => true) pl.isList pl2.isList rfl hu (fun j h1 _ => absurd h1 (by simp)) _ _ _ _ ⟨.bl _, H, I, rfl, q⟩
  | cons x xs =>
    obtain ⟨y, its', rfl⟩ : ∃ y its', its = y :: its' := by cases rv with | cons a b => exact ⟨_, _, rfl⟩
    exact SeqAt.RcNeAt.lists_lengths pl.isList pl2.isList (by simp) hu _ _ _ _ ⟨.bl _, H, I, rfl, q⟩
end Sg
set_option Elab.async false
set_option linter.all false
set_option maxRecDepth 100000
set_option maxHeartbeats 4000000
namespace Sg
open PySem PySem.Spec PyProof.Rows L2
/-! ## rows of expressions, each of its own making -/
def tE (S : L2.St → Hp → Prop) (R : Hp → V → Prop) : TE := fun σ H Q => S σ H ∧ ∀ H' v, Same H H' → R H' v → Q v H'
section
variable {X : Cx} {S : L2.St → Hp → Prop} {R : Hp → V → Prop}
theorem PE.e {e : Expr} {t : TE} (h : PE X e t) (i : ∀ σ H Q, S σ H → (∀ H' v, Same H H' → R H' v → Q v H') → t σ H Q) : PE X e (tE S R) := PE.imp h fun σ H Q q => i σ H Q q.1 q.2
/-! ## tuples: + and slices, any of them -/
end
/-! ## short data -/
def SmV (K : PySem.W.Frag) (H : Hp) (v : V) : Prop := ∃ d, Dp K H v d ∧ SmL 100 [d]
theorem SmV.same {K : PySem.W.Frag} {H H' : Hp} (e : Same H H') {v : V} (h : SmV K H v) : SmV K H' v := by
  obtain ⟨d, h1, h2⟩ := h
  exact ⟨d, Dp.same e h1, h2⟩
end Sg
set_option Elab.async false
set_option linter.all false
set_option maxRecDepth 100000
set_option maxHeartbeats 4000000
namespace Sg
open PySem PySem.Spec PyProof.Rows L2
/-! ## data is kept where only tables change -/
abbrev ExtN := @LamX.ExtN
theorem ext_of {H H' : Hp} (e : Same H H') : LamX.ExtN H H' := fun b o h _ => e b o h
theorem ext_tup {K : PySem.W.Frag} {H H' : Hp} {a : Addr} {xs : List V} (e : LamX.ExtN H H') (h : SqT K H a xs) : SqT K H' a xs := by
  rcases h with (h | ⟨o, h⟩) | h
  · exact .inl (.inl (e _ _ h fun ps z => nomatch z))
  · exact .inl (.inr ⟨o, e _ _ h fun ps z => nomatch z⟩)
  · exact .inr h
theorem ext_lst {K : PySem.W.Frag} {H H' : Hp} {a : Addr} {xs : List V} (e : LamX.ExtN H H') (h : SqL K H a xs) : SqL K H' a xs := by
  rcases h with (h | ⟨o, h⟩) | h
  · exact .inl (.inl (e _ _ h fun ps z => nomatch z))
  · exact .inl (.inr ⟨o, e _ _ h fun ps z => nomatch z⟩)
  · exact .inr h
mutual
theorem Dp.ext {K : PySem.W.Frag} {H H' : Hp} (e : LamX.ExtN H H') : ∀ {v : V} {d : PyData}, Dp K H v d → Dp K H' v d
  | _, _, .non => .non
  | _, _, .bl b => .bl b
  | _, _, .int i => .int i
  | _, _, .str x => .str x
  | _, _, .lst h r => .lst (ext_lst e h) (DpAll.ext e r)
  | _, _, .tup h r => .tup (ext_tup e h) (DpAll.ext e r)
theorem DpAll.ext {K : PySem.W.Frag} {H H' : Hp} (e : LamX.ExtN H H') : ∀ {vs : List V} {ds : List PyData}, DpAll K H vs ds → DpAll K H' vs ds
  | _, _, .nil => .nil
  | _, _, .cons a r => .cons (Dp.ext e a) (DpAll.ext e r)
end
mutual
theorem Tp.ext {K : PySem.W.Frag} {H H' : Hp} (e : LamX.ExtN H H') : ∀ {v : V} {d : PyData}, Tp K H v d → Tp K H' v d
  | _, _, .int i => .int i
  | _, _, .tu h r => .tu (ext_tup e h) (TpAll.ext e r)
theorem TpAll.ext {K : PySem.W.Frag} {H H' : Hp} (e : LamX.ExtN H H') : ∀ {vs : List V} {ds : List PyData}, TpAll K H vs ds → TpAll K H' vs ds
  | _, _, .no => .no
  | _, _, .on a r => .on (Tp.ext e a) (TpAll.ext e r)
end
theorem Aq.ext {K : PySem.W.Frag} {H H' : Hp} (e : LamX.ExtN H H') {v : V} {d : PyData} (h : Aq K H v d) : Aq K H' v d := by
  cases h with
  | data h => exact .data (Dp.ext e h)
  | dic h g =>
    refine .dic (e _ _ h fun ps z => nomatch z) ?_
    cases g with
    | no => exact .no
    | one t => exact .one (Tp.ext e t)
theorem AnyV.ext {K : PySem.W.Frag} {H H' : Hp} (e : LamX.ExtN H H') {v : V} (h : AnyV K H v) : AnyV K H' v := by
  obtain ⟨d, h1, h2⟩ := h
  exact ⟨d, h1.ext e, h2⟩
theorem PenAt.ext {H H' : Hp} {p : Addr} (e : LamX.ExtN H H') (h : PenAt H p) : PenAt H' p := by
  obtain ⟨a, b, c, h1, h2⟩ := h
  exact ⟨a, b, c, e _ _ h1 (fun ps z => nomatch z), h2⟩
theorem FrzT.ext {H H' : Hp} (e : LamX.ExtN H H') {a : Addr} {xs : List V} (h : FrzT H a xs) : FrzT H' a xs := by
  obtain ⟨ob, h1, h2⟩ := h
  exact ⟨ob, e _ _ h1 (fun ps z => nomatch z), h2⟩
/-! ## the code object of a def that makes lambdas -/
end Sg
set_option Elab.async false
set_option linter.all false
set_option maxRecDepth 100000
set_option maxHeartbeats 4000000
set_option Elab.async false
set_option linter.all false
set_option maxRecDepth 100000
set_option maxHeartbeats 4000000
namespace Sg
open PySem PySem.Spec PyProof.Rows L2
/-! ## short data, a dict at most on top -/
def AnyS (K : PySem.W.Frag) (H : Hp) (v : V) : Prop := ∃ d, Aq K H v d ∧ GoodD d ∧ d.bulk ≤ 900
theorem AnyS.same {K : PySem.W.Frag} {H H' : Hp} (e : Same H H') {v : V} (h : AnyS K H v) : AnyS K H' v := by
  obtain ⟨d, h1, h2⟩ := h
  exact ⟨d, h1.same e, h2⟩
theorem AnyS.ext {K : PySem.W.Frag} {H H' : Hp} (e : LamX.ExtN H H') {v : V} (h : AnyS K H v) : AnyS K H' v := by
  obtain ⟨d, h1, h2⟩ := h
  exact ⟨d, h1.ext e, h2⟩
theorem AnyS.any {K : PySem.W.Frag} {H : Hp} {v : V} (h : AnyS K H v) : AnyV K H v := by
  obtain ⟨d, h1, h2, _⟩ := h
  exact ⟨d, h1, h2⟩
def AllS (K : PySem.W.Frag) (H : Hp) (vs : List V) : Prop := ∀ v ∈ vs, AnyS K H v
theorem AllS.same {K : PySem.W.Frag} {H H' : Hp} (e : Same H H') {vs : List V} (h : AllS K H vs) : AllS K H' vs := fun v hv => (h v hv).same e
theorem AllS.app {K : PySem.W.Frag} {H : Hp} {vs us : List V} (h : AllS K H vs) (g : AllS K H us) : AllS K H (vs ++ us) := fun v hv => (List.mem_append.mp hv).elim (h v) (g v)
/-! ## what is no instance of an own class -/
def PlainV (K : PySem.W.Frag) (H : Hp) (v : V) : Prop := ∃ d : PyData, TyX K H v (.type (tyN d))
theorem AnyV.plain {K : PySem.W.Frag} {H : Hp} {v : V} (h : AnyV K H v) : PlainV K H v := by
  obtain ⟨d, h1, _⟩ := h
  exact ⟨d, aq_ty h1⟩
/-! ## laps, worths: of any data -/
end Sg
set_option Elab.async false
set_option linter.all false
set_option maxRecDepth 100000
set_option maxHeartbeats 4000000
set_option Elab.async false
set_option linter.all false
set_option maxRecDepth 100000
set_option maxHeartbeats 4000000
namespace Sg
open PySem PySem.Spec PyProof.Rows L2
/-! ## data that may hold a Line: to the built-in types a Line looks as None does -/
mutual
inductive Lp (K : PySem.W.Frag) (C : Addr) (H : Hp) : V → PyData → Prop
  | non : Lp K C H .non .none
  | bl (b : Bool) : Lp K C H (.bl b) (.bool b)
  | int (i : Int) : Lp K C H (.int i) (.int i)
  | str (x : Str) : Lp K C H (.str x) (.str x)
  | lst {a : Addr} {xs : List V} {ds : List PyData} : SqL K H a xs → LpAll K C H xs ds → Lp K C H (.ref a) (.list ds)
  | tup {a : Addr} {xs : List V} {ds : List PyData} : SqT K H a xs → LpAll K C H xs ds → Lp K C H (.ref a) (.tuple ds)
  | line {a : Addr} {ws : List (List Int)} : LineAt K C H a ws → Lp K C H (.ref a) .none
  | dic {a : Addr} {kvs : List (L2.Key × V)} : H a = some (.dK kvs) → Lp K C H (.ref a) (.dict [])
inductive LpAll (K : PySem.W.Frag) (C : Addr) (H : Hp) : List V → List PyData → Prop
  | nil : LpAll K C H [] []
  | cons {v : V} {vs : List V} {d : PyData} {ds : List PyData} : Lp K C H v d → LpAll K C H vs ds → LpAll K C H (v :: vs) (d :: ds)
end
mutual
theorem Lp.ext {K : PySem.W.Frag} {C : Addr} {H H' : Hp} (e : LamX.ExtN H H') : ∀ {v : V} {d : PyData}, Lp K C H v d → Lp K C H' v d
  | _, _, .non => .non
  | _, _, .bl b => .bl b
  | _, _, .int i => .int i
  | _, _, .str x => .str x
  | _, _, .lst h r => .lst (ext_lst e h) (LpAll.ext e r)
  | _, _, .tup h r => .tup (ext_tup e h) (LpAll.ext e r)
  | _, _, .line h => .line (h.stay ⟨fun _ _ z => ext_tup e z, fun _ _ _ _ z => e _ _ z fun ps y => nomatch y⟩)
  | _, _, .dic h => .dic (e _ _ h fun ps y => nomatch y)
theorem LpAll.ext {K : PySem.W.Frag} {C : Addr} {H H' : Hp} (e : LamX.ExtN H H') : ∀ {vs : List V} {ds : List PyData}, LpAll K C H vs ds → LpAll K C H' vs ds
  | _, _, .nil => .nil
  | _, _, .cons a r => .cons (Lp.ext e a) (LpAll.ext e r)
end
theorem Lp.same {K : PySem.W.Frag} {C : Addr} {H H' : Hp} (e : Same H H') {v : V} {d : PyData} (h : Lp K C H v d) : Lp K C H' v d := h.ext (ext_of e)
theorem LpAll.same {K : PySem.W.Frag} {C : Addr} {H H' : Hp} (e : Same H H') {vs : List V} {ds : List PyData} (h : LpAll K C H vs ds) : LpAll K C H' vs ds := h.ext (ext_of e)
theorem LpAll.len {K : PySem.W.Frag} {C : Addr} {H : Hp} : ∀ {vs : List V} {ds : List PyData}, LpAll K C H vs ds → vs.length = ds.length
  | _, _, .nil => rfl
  | _, _, .cons _ r => congrArg (· + 1) (LpAll.len r)
theorem LpAll.at {K : PySem.W.Frag} {C : Addr} {H : Hp} : ∀ {vs : List V} {ds : List PyData} {i : Nat} {v : V}, LpAll K C H vs ds → vs[i]? = some v → ∃ d, ds[i]? = some d ∧ Lp K C H v d
  | _, _, _, _, .nil, h => nomatch h
  | _, _, 0, _, .cons a _, h => by cases h; exact ⟨_, rfl, a⟩
  | _, _, i + 1, _, .cons _ r, h => LpAll.at (i := i) r h
mutual
theorem Dp.lp {K : PySem.W.Frag} {C : Addr} {H : Hp} : ∀ {v : V} {d : PyData}, Dp K H v d → Lp K C H v d
  | _, _, .non => .non
  | _, _, .bl b => .bl b
  | _, _, .int i => .int i
  | _, _, .str x => .str x
  | _, _, .lst h r => .lst h (DpAll.lp r)
  | _, _, .tup h r => .tup h (DpAll.lp r)
theorem DpAll.lp {K : PySem.W.Frag} {C : Addr} {H : Hp} : ∀ {vs : List V} {ds : List PyData}, DpAll K H vs ds → LpAll K C H vs ds
  | _, _, .nil => .nil
  | _, _, .cons a r => .cons (Dp.lp a) (DpAll.lp r)
end
end Sg
set_option Elab.async false
set_option linter.all false
set_option maxRecDepth 100000
set_option maxHeartbeats 4000000
set_option Elab.async false
set_option linter.all false
set_option maxRecDepth 100000
set_option maxHeartbeats 4000000
set_option Elab.async false
set_option linter.all false
set_option maxRecDepth 100000
set_option maxHeartbeats 4000000
namespace Sg
open PySem PySem.Spec PyProof.Rows L2
/-! ## repr of rows with numbers of more digits -/
/-- what may be shown, its numbers up to 700 digits -/
structure GoodW (d : PyData) : Prop where
  sh : d.showable = true
  dp : d.depth ≤ 40
  lv : d.leavesShort 700 = true
  bk : d.bulk ≤ 1000
theorem GoodW.short {d : PyData} (h : GoodW d) : d.shown.length ≤ sizeLine := by
  have h1 := PyData.shown_le_bulk 700 (by decide) d h.lv
  have h2 := h.bk
  have h4 : sizeLine = 16777216 := sizeLine_eq
  omega
end Sg
set_option Elab.async false
set_option linter.all false
set_option maxRecDepth 100000
set_option maxHeartbeats 4000000
set_option Elab.async false
set_option linter.all false
set_option maxRecDepth 100000
set_option maxHeartbeats 4000000
namespace Sg
open PySem PySem.Spec PyProof.Rows L2
section
variable {β : Type} {prog : Program} {w : World} {A : Around} {R : Result → Shared → Prop}
/-- all but a stays -/
def StayB (a : Addr) (h h' : Heap) : Prop := (∀ b o, b ≠ a → h.get? b = some o → h'.get? b = some o) ∧ h'.objs.size = h.objs.size
theorem StayB.refl (a : Addr) (h : Heap) : StayB a h h := ⟨fun _ _ _ e => e, rfl⟩
theorem StayB.trans {a : Addr} {h h1 h2 : Heap} (x : StayB a h h1) (y : StayB a h1 h2) : StayB a h h2 := ⟨fun b o n e => y.1 b o n (x.1 b o n e), y.2.trans x.2⟩
theorem StayB.upd {a : Addr} {h : Heap} {f : Obj → Obj} : StayB a h (h.update a f) := ⟨fun b o n e => (Heap.get?_update_other _ _ (Ne.symm n)).trans e, by simp [Heap.update]⟩
end
end Sg
set_option Elab.async false
set_option linter.all false
set_option maxRecDepth 100000
set_option maxHeartbeats 4000000
set_option Elab.async false
set_option linter.all false
set_option maxRecDepth 100000
set_option maxHeartbeats 4000000
set_option Elab.async false
set_option linter.all false
set_option maxRecDepth 100000
set_option maxHeartbeats 4000000
set_option Elab.async false
set_option linter.all false
set_option maxRecDepth 100000
set_option maxHeartbeats 4000000
namespace Sg
open PySem PySem.Spec PyProof.Rows L2
/-! ## waits: places and items of the queue -/
abbrev Plc := Int × Int
abbrev plD (p : Plc) : PyData := tD [p.1, p.2]
abbrev plsD (ps : List Plc) : List PyData := ps.map plD
/-! ### lists of whole numbers, of places, the less -/
def lexI : List Int → List Int → Bool
  | _, [] => false
  | [], _ :: _ => true
  | x :: xs, y :: ys => if x = y then lexI xs ys else decide (x < y)
abbrev It := Int × List Int × List Plc
def itD (i : It) : PyData := .tuple [.int i.1, tD i.2.1, .tuple (plsD i.2.2)]
open PySem.W in
theorem rowLt_nil : rowLt [] [] = false := lex_irrefl _
open PySem.W in
theorem rowLt_less (y : PyData) (ys : List PyData) : rowLt [] (y :: ys) = true := by
  unfold rowLt
  rw [toks_all_cons]
  simp only [keyToksAll]
  rw [lex_diff (O := itemOrd) (by simp)]
  rfl
open PySem.W in
theorem rowLt_more (x : PyData) (xs : List PyData) : rowLt (x :: xs) [] = false := by
  unfold rowLt
  rw [toks_all_cons]
  simp only [keyToksAll]
  rw [lex_diff (O := itemOrd) (by simp)]
  rfl
open PySem.W in
theorem rowLt_cons {x y : PyData} (h : alike x y = true) (xs ys : List PyData) : rowLt (x :: xs) (y :: ys) = if PyData.eqv x y = true then rowLt xs ys else dataLt x y := dataLt_cons h xs ys
theorem rowLt_ints : ∀ xs ys : List Int, PySem.W.rowLt (iD xs) (iD ys) = lexI xs ys
  | [], [] => rowLt_nil
  | [], y :: ys => rowLt_less _ _
  | x :: xs, [] => rowLt_more _ _
  | x :: xs, y :: ys => by
    show PySem.W.rowLt (.int x :: iD xs) (.int y :: iD ys) = if x = y then lexI xs ys else decide (x < y)
    rw [rowLt_cons (by simp [PySem.W.alike]), rowLt_ints xs ys, PySem.W.dataLt_int]
    simp only [PyData.eqv, beq_iff_eq]
end Sg
set_option Elab.async false
set_option linter.all false
set_option maxRecDepth 100000
set_option maxHeartbeats 4000000
namespace Sg
open PySem PySem.Spec PyProof.Rows L2
/-! ## the search for the least waits, as the program does it -/
abbrev SKey := Nat × List Plc
/-! ### what stands in the heap -/
def KeepT (H H' : Hp) : Prop := ∀ a us, H a = some (.tup us) → H' a = some (.tup us)
theorem KeepT.of {H H' : Hp} (e : Same H H') : KeepT H H' := fun a us h => e _ _ h
theorem KeepT.trans {H H1 H2 : Hp} (x : KeepT H H1) (y : KeepT H1 H2) : KeepT H H2 := fun a us h => y a us (x a us h)
theorem KeepT.upd {H : Hp} {a : Addr} {o o' : HO} (h : H a = some o) (n : ∀ us, o ≠ .tup us) : KeepT H (upd H a o') := fun b us z => by
  rw [upd_ne (ne_of z h (fun z => n us z.symm))]; exact z
inductive PlsAt (H : Hp) : List V → List Plc → Prop
  | nil : PlsAt H [] []
  | cons {c : Addr} {p : Plc} {vs : List V} {ps : List Plc} : H c = some (.tup [.int p.1, .int p.2]) → PlsAt H vs ps → PlsAt H (.ref c :: vs) (p :: ps)
theorem PlsAt.keep {H H' : Hp} (e : KeepT H H') : ∀ {vs : List V} {ps : List Plc}, PlsAt H vs ps → PlsAt H' vs ps
  | _, _, .nil => .nil
  | _, _, .cons h r => .cons (e _ _ h) (PlsAt.keep e r)
theorem PlsAt.len {H : Hp} : ∀ {vs : List V} {ps : List Plc}, PlsAt H vs ps → vs.length = ps.length
  | _, _, .nil => rfl
  | _, _, .cons _ r => congrArg (· + 1) (PlsAt.len r)
theorem PlsAt.snoc {H : Hp} {c : Addr} {p : Plc} (h : H c = some (.tup [.int p.1, .int p.2])) : ∀ {vs : List V} {ps : List Plc}, PlsAt H vs ps → PlsAt H (vs ++ [.ref c]) (ps ++ [p])
  | _, _, .nil => .cons h .nil
  | _, _, .cons a r => .cons a (PlsAt.snoc h r)
theorem PlsAt.at {H : Hp} : ∀ {vs : List V} {ps : List Plc} {i : Nat} {v : V}, PlsAt H vs ps → vs[i]? = some v → ∃ c p, v = .ref c ∧ ps[i]? = some p ∧ H c = some (.tup [.int p.1, .int p.2])
  | _, _, 0, _, .cons h _, e => by cases e; exact ⟨_, _, rfl, rfl, h⟩
  | _, _, i + 1, _, .cons _ r, e => PlsAt.at (i := i) r e
theorem PlsAt.dp {K : PySem.W.Frag} {H : Hp} : ∀ {vs : List V} {ps : List Plc}, PlsAt H vs ps → DpAll K H vs (plsD ps)
  | _, _, .nil => .nil
  | _, _, .cons h r => .cons (Tp.ofInts (ns := [_, _]) (.of h)).dp (PlsAt.dp r)
theorem PlsAt.zip {H : Hp} : ∀ {vs : List V} {ps : List Plc}, PlsAt H vs ps → ∀ b ∈ vs.zip (plsD ps), ∃ c p, b = (.ref c, plD p) ∧ H c = some (.tup [.int p.1, .int p.2])
  | _, _, .nil, b, hb => nomatch hb
  | _, _, .cons h r, b, hb => by
    rcases List.mem_cons.mp hb with rfl | hb
    · exact ⟨_, _, rfl, h⟩
    · exact PlsAt.zip r b hb
def TkAt (H : Hp) (r : Addr) (ps : List Plc) : Prop := ∃ us, H r = some (.tup us) ∧ PlsAt H us ps
theorem TkAt.keep {H H' : Hp} (e : KeepT H H') {r : Addr} {ps : List Plc} (h : TkAt H r ps) : TkAt H' r ps := by
  obtain ⟨us, h1, h2⟩ := h
  exact ⟨us, e _ _ h1, h2.keep e⟩
theorem TkAt.dp {K : PySem.W.Frag} {H : Hp} {r : Addr} {ps : List Plc} (h : TkAt H r ps) : Dp K H (.ref r) (.tuple (plsD ps)) := by
  obtain ⟨us, h1, h2⟩ := h
  exact .tup (.of h1) h2.dp
/-- an item of the queue -/
def ItAt (H : Hp) (v : V) (it : It) : Prop := ∃ r w t, v = .ref r ∧ H r = some (.tup [.int it.1, .ref w, .ref t]) ∧ H w = some (.tup (it.2.1.map V.int)) ∧ TkAt H t it.2.2
theorem ItAt.keep {H H' : Hp} (e : KeepT H H') {v : V} {it : It} (h : ItAt H v it) : ItAt H' v it := by
  obtain ⟨r, w, t, h1, h2, h3, h4⟩ := h
  exact ⟨r, w, t, h1, e _ _ h2, e _ _ h3, h4.keep e⟩
theorem ItAt.dp {K : PySem.W.Frag} {H : Hp} {v : V} {it : It} (h : ItAt H v it) : Dp K H v (itD it) := by
  obtain ⟨r, w, t, rfl, h2, h3, h4⟩ := h
  exact .tup (.of h2) (.cons (.int _) (.cons (Tp.ofInts (ns := it.2.1) (.of h3)).dp (.cons h4.dp .nil)))
/-! ### keys of what was seen -/
def plK (p : Plc) : NestedKey := .tup [.num p.1, .num p.2]
def sK (k : SKey) : NestedKey := .tup [.num (k.1 : Int), .tup (k.2.map plK)]
theorem PlsAt.keys {H : Hp} : ∀ {vs : List V} {ps : List Plc}, PlsAt H vs ps → KeyAll H (ps.map plK) vs
  | _, _, .nil => .no
  | _, _, .cons h r => .on (.tup h (.on (.int _) (.on (.int _) .no))) (PlsAt.keys r)
theorem depth_plK : ∀ ps : List Plc, NestedKey.depthAll (ps.map plK) ≤ 1
  | [] => by rw [List.map_nil, NestedKey.depthAll]; omega
  | p :: ps => by
    have := depth_plK ps
    rw [List.map_cons, NestedKey.depthAll]
    unfold plK
    simp only [NestedKey.depth, NestedKey.depthAll]
    exact Nat.max_le.mpr ⟨by simp, this⟩
theorem sK_deep (k : SKey) : (sK k).depth ≤ 8 := by
  have := depth_plK k.2
  unfold sK
  simp only [NestedKey.depth, NestedKey.depthAll]
  omega
theorem plK_inj : ∀ {x y : List Plc}, x.map plK = y.map plK → x = y
  | [], [], _ => rfl
  | [], _ :: _, h => nomatch h
  | _ :: _, [], h => nomatch h
  | a :: x, b :: y, h => by
    rw [List.map_cons, List.map_cons] at h
    obtain ⟨h1, h2⟩ := List.cons.inj h
    have h1 := NestedKey.tup.inj h1
    obtain ⟨h3, h4⟩ := List.cons.inj h1
    obtain ⟨h5, _⟩ := List.cons.inj h4
    rw [plK_inj h2, Prod.ext (NestedKey.num.inj h3) (NestedKey.num.inj h5)]
theorem sK_inj {x y : SKey} (h : sK x = sK y) : x = y := by
  have h := NestedKey.tup.inj h
  obtain ⟨h1, h2⟩ := List.cons.inj h
  obtain ⟨h3, _⟩ := List.cons.inj h2
  exact Prod.ext (by have := NestedKey.num.inj h1; omega) (plK_inj (NestedKey.tup.inj h3))
/-- the dict's rows are what was seen -/
structure SeenOk (H : Hp) (rs : List Row) (seen : List SKey) : Prop where
  keys : KeysIn H rs
  len : rs.length = seen.length
  has : ∀ k : SKey, (atN rs (sK k)).isSome = decide (k ∈ seen)
theorem SeenOk.keep {H H' : Hp} (e : KeepT H H') {rs : List Row} {seen : List SKey} (h : SeenOk H rs seen) : SeenOk H' rs seen := ⟨h.keys.keep e, h.len, h.has⟩
theorem SeenOk.add {H : Hp} {rs : List Row} {seen : List SKey} {k : SKey} {b : Addr} {v : V} (h : SeenOk H rs seen) (hk : KeyAt H (sK k) (.ref b)) (hn : k ∉ seen) : SeenOk H (storeN rs (sK k) b v) (k :: seen) := by
  have h0 : atN rs (sK k) = none := by
    have := h.has k
    rw [decide_eq_false hn] at this
    exact Option.isNone_iff_eq_none.mp (by simpa using this)
  rw [storeN_new h0]
  refine ⟨fun r hr => ?_, by rw [List.length_append, h.len]; rfl, fun k' => ?_⟩
  · rcases List.mem_append.mp hr with hr | hr
    · exact h.keys r hr
    · rw [List.mem_singleton.mp hr]; exact ⟨hk, sK_deep k⟩
  · have := h.has k'
    unfold atN at this ⊢
    rw [List.find?_append]
    by_cases e : k' = k
    · subst e
      rw [decide_eq_true List.mem_cons_self]
      cases hf : rs.find? (fun r => decide (r.1 = sK k')) with
      | some r => simp
      | none => simp [List.find?_cons]
    · have e2 : sK k ≠ sK k' := fun z => e (sK_inj z).symm
      rw [show decide (k' ∈ k :: seen) = decide (k' ∈ seen) from by simp [e], ← this]
      cases hf : rs.find? (fun r => decide (r.1 = sK k')) with
      | some r => simp
      | none => simp [List.find?_cons, e2]
end Sg
set_option Elab.async false
set_option linter.all false
set_option maxRecDepth 100000
set_option maxHeartbeats 4000000
namespace Sg
open PySem PySem.Spec PyProof.Rows L2 StX
/-! ## displays of constants and names, as data; each tuple's object is told -/
mutual
inductive Fd (H : Hp) : V → PyData → Prop
  | non : Fd H .non .none
  | bl (b : Bool) : Fd H (.bl b) (.bool b)
  | int (i : Int) : Fd H (.int i) (.int i)
  | lst {a : Addr} {xs : List V} {ds : List PyData} : H a = some (.lst xs) → FdAll H xs ds → Fd H (.ref a) (.list ds)
  | tup {a : Addr} {xs : List V} {ds : List PyData} : FrzT H a xs → FdAll H xs ds → Fd H (.ref a) (.tuple ds)
inductive FdAll (H : Hp) : List V → List PyData → Prop
  | nil : FdAll H [] []
  | cons {v : V} {vs : List V} {d : PyData} {ds : List PyData} : Fd H v d → FdAll H vs ds → FdAll H (v :: vs) (d :: ds)
end
mutual
theorem Fd.same {H H' : Hp} (e : Same H H') : ∀ {v : V} {d : PyData}, Fd H v d → Fd H' v d
  | _, _, .non => .non
  | _, _, .bl b => .bl b
  | _, _, .int i => .int i
  | _, _, .lst h r => .lst (e _ _ h) (FdAll.same e r)
  | _, _, .tup h r => .tup (h.same e) (FdAll.same e r)
theorem FdAll.same {H H' : Hp} (e : Same H H') : ∀ {vs : List V} {ds : List PyData}, FdAll H vs ds → FdAll H' vs ds
  | _, _, .nil => .nil
  | _, _, .cons a r => .cons (Fd.same e a) (FdAll.same e r)
end
mutual
theorem Fd.dp {K : PySem.W.Frag} {H : Hp} : ∀ {v : V} {d : PyData}, Fd H v d → Dp K H v d
  | _, _, .non => .non
  | _, _, .bl b => .bl b
  | _, _, .int i => .int i
  | _, _, .lst h r => .lst (.of h) (FdAll.dp r)
  | _, _, .tup h r => .tup h.sq (FdAll.dp r)
theorem FdAll.dp {K : PySem.W.Frag} {H : Hp} : ∀ {vs : List V} {ds : List PyData}, FdAll H vs ds → DpAll K H vs ds
  | _, _, .nil => .nil
  | _, _, .cons a r => .cons (Fd.dp a) (FdAll.dp r)
end
theorem FdAll.len {H : Hp} : ∀ {vs : List V} {ds : List PyData}, FdAll H vs ds → vs.length = ds.length
  | _, _, .nil => rfl
  | _, _, .cons _ r => congrArg (· + 1) (FdAll.len r)
theorem FdAll.app {H : Hp} : ∀ {vs us : List V} {ds es : List PyData}, FdAll H vs ds → FdAll H us es → FdAll H (vs ++ us) (ds ++ es)
  | _, _, _, _, .nil, g => g
  | _, _, _, _, .cons a r, g => .cons a (FdAll.app r g)
theorem FdAll.at {H : Hp} : ∀ {vs : List V} {ds : List PyData} {i : Nat} {v : V}, FdAll H vs ds → vs[i]? = some v → ∃ d, ds[i]? = some d ∧ Fd H v d
  | _, _, 0, _, .cons h _, e => by cases e; exact ⟨_, rfl, h⟩
  | _, _, i + 1, _, .cons _ r, e => FdAll.at (i := i) r e
theorem FdAll.ints {H : Hp} : ∀ {vs : List V} {ns : List Int}, FdAll H vs (iD ns) → vs = ns.map V.int
  | [], [], _ => rfl
  | [], _ :: _, h => nomatch h
  | _ :: _, [], h => nomatch h
  | v :: vs, n :: ns, h => by
    have h : FdAll H (v :: vs) (.int n :: iD ns) := h
    cases h with
    | cons a r =>
      cases a
      rw [FdAll.ints r]; rfl
theorem Fd.ints {H : Hp} {v : V} {ns : List Int} (h : Fd H v (tD ns)) : ∃ a, v = .ref a ∧ FrzT H a (ns.map V.int) := by
  have h : Fd H v (.tuple (iD ns)) := h
  cases h with
  | tup g r => rw [FdAll.ints r] at g; exact ⟨_, rfl, g⟩
/-! ### a tuple, its object told -/
/-! ### (x,) * n -/
/-! ### the reading -/
/-! ## a range object in a name -/
end Sg
set_option Elab.async false
set_option linter.all false
set_option maxRecDepth 100000
set_option maxHeartbeats 4000000
namespace Sg
/-! ## the order of the queue's items -/
section
variable {α : Type} [DecidableEq α] {lt : α → α → Bool}
/-- by size, as tuples are compared -/
def lexG (lt : α → α → Bool) : List α → List α → Bool
  | _, [] => false
  | [], _ :: _ => true
  | x :: xs, y :: ys => if x = y then lexG lt xs ys else lt x y
variable (as : ∀ x y, lt x y = true → lt y x = false) (ng : ∀ x y z, lt x y = false → lt y z = false → lt x z = false) (eq : ∀ x y, lt x y = false → lt y x = false → x = y)
theorem lexG_irr : ∀ xs : List α, lexG lt xs xs = false
  | [] => rfl
  | x :: xs => by show (if x = x then lexG lt xs xs else _) = false; rw [if_pos rfl]; exact lexG_irr xs
include as in
theorem lexG_asym : ∀ xs ys : List α, lexG lt xs ys = true → lexG lt ys xs = false
  | [], [], h => nomatch h
  | [], _ :: _, _ => rfl
  | _ :: _, [], h => nomatch h
  | x :: xs, y :: ys, h => by
    have h : (if x = y then lexG lt xs ys else lt x y) = true := h
    show (if y = x then lexG lt ys xs else lt y x) = false
    by_cases e : x = y
    · rw [if_pos e] at h; rw [if_pos e.symm]; exact lexG_asym xs ys h
    · rw [if_neg e] at h; rw [if_neg (fun z => e z.symm)]; exact as _ _ h
include as ng eq in
theorem lexG_neg : ∀ xs ys zs : List α, lexG lt xs ys = false → lexG lt ys zs = false → lexG lt xs zs = false
  | _, _, [], _, _ => by unfold lexG; rfl
  | [], [], _ :: _, _, g => nomatch g
  | _ :: _, [], _ :: _, _, g => nomatch g
  | [], _ :: _, _ :: _, h, _ => nomatch h
  | x :: xs, y :: ys, z :: zs, h, g => by
    have h : (if x = y then lexG lt xs ys else lt x y) = false := h
    have g : (if y = z then lexG lt ys zs else lt y z) = false := g
    show (if x = z then lexG lt xs zs else lt x z) = false
    by_cases e1 : x = y
    · subst e1
      rw [if_pos rfl] at h
      by_cases e2 : x = z
      · rw [if_pos e2] at g ⊢; exact lexG_neg xs ys zs h g
      · rw [if_neg e2] at g ⊢; exact g
    · rw [if_neg e1] at h
      by_cases e2 : y = z
      · subst e2; rw [if_neg e1]; exact h
      · rw [if_neg e2] at g
        have k := ng _ _ _ h g
        by_cases e3 : x = z
        · subst e3
          -- then x and y are one another's equals
          exact absurd (eq _ _ h g) e1
        · rw [if_neg e3]; exact k
include eq in
theorem lexG_eq : ∀ xs ys : List α, lexG lt xs ys = false → lexG lt ys xs = false → xs = ys
  | [], [], _, _ => rfl
  | [], _ :: _, h, _ => nomatch h
  | _ :: _, [], _, g => nomatch g
  | x :: xs, y :: ys, h, g => by
    have h : (if x = y then lexG lt xs ys else lt x y) = false := h
    have g : (if y = x then lexG lt ys xs else lt y x) = false := g
    by_cases e : x = y
    · rw [if_pos e] at h; rw [if_pos e.symm] at g
      rw [e, lexG_eq xs ys h g]
    · rw [if_neg e] at h; rw [if_neg (fun z => e z.symm)] at g
      exact absurd (eq _ _ h g) e
end
def ltZ' (x y : Int) : Bool := decide (x < y)
theorem lexI_g : ∀ xs ys : List Int, lexI xs ys = lexG ltZ' xs ys
  | _, [] => by unfold lexI lexG; rfl
  | [], _ :: _ => rfl
  | x :: xs, y :: ys => by show (if x = y then lexI xs ys else _) = if x = y then lexG ltZ' xs ys else _; rw [lexI_g xs ys]; rfl
theorem zas (x y : Int) (h : ltZ' x y = true) : ltZ' y x = false := by unfold ltZ' at h ⊢; rw [decide_eq_true_eq] at h; rw [decide_eq_false_iff_not]; omega
theorem zng (x y z : Int) (h : ltZ' x y = false) (g : ltZ' y z = false) : ltZ' x z = false := by unfold ltZ' at h g ⊢; rw [decide_eq_false_iff_not] at h g ⊢; omega
theorem zeq (x y : Int) (h : ltZ' x y = false) (g : ltZ' y x = false) : x = y := by unfold ltZ' at h g; rw [decide_eq_false_iff_not] at h g; omega
theorem lexI_asym (xs ys : List Int) (h : lexI xs ys = true) : lexI ys xs = false := by rw [lexI_g] at h ⊢; exact lexG_asym zas _ _ h
theorem lexI_neg (xs ys zs : List Int) (h : lexI xs ys = false) (g : lexI ys zs = false) : lexI xs zs = false := by rw [lexI_g] at h g ⊢; exact lexG_neg zas zng zeq _ _ _ h g
theorem lexI_eq (xs ys : List Int) (h : lexI xs ys = false) (g : lexI ys xs = false) : xs = ys := by rw [lexI_g] at h g; exact lexG_eq zeq _ _ h g
theorem lexI_irr (xs : List Int) : lexI xs xs = false := by rw [lexI_g]; exact lexG_irr xs
end Sg
set_option Elab.async false
set_option linter.all false
set_option maxRecDepth 100000
set_option maxHeartbeats 4000000
set_option Elab.async false
set_option linter.all false
set_option maxRecDepth 100000
set_option maxHeartbeats 4000000
set_option Elab.async false
set_option linter.all false
set_option maxRecDepth 100000
set_option maxHeartbeats 4000000
set_option Elab.async false
set_option linter.all false
set_option maxRecDepth 100000
set_option maxHeartbeats 4000000
namespace Sg
open PySem PySem.Spec PyProof.Rows L2 StX
/-! ## sorted(a tuple of data) -/
section
variable {X : Cx}
/-! ## min(list of data) -/
theorem cr_minL (hc : X.calm = true) {j : Nat} (hr : Room j X.A) : CallR X (.builtin "min") (fun vs H Q => ∃ (a : Addr) (ys : List V) (e : PyData) (es : List PyData), vs = [.ref a] ∧ SqL X.K H a ys ∧ DpAll X.K H ys (e :: es) ∧
    PySem.W.AlikeAll (e :: es) ∧ PyData.depthAll (e :: es) ≤ 10 ∧ (∀ (i : Nat) (y : V), ys[i]? = some y → (e :: es)[i]? = some (PySem.W.minD e es) → Q y H)) := by
  intro pins s σ H xs us Q I r h
  obtain ⟨a, ys, e, es, rfl, hs, dp, al, dep, q⟩ := h
  obtain ⟨u, rfl, rfl⟩ := vals1 r
  obtain ⟨its, rv, hl, hzz⟩ := I.list hs
  obtain ⟨as, rd⟩ := Dp.readsAll I (e :: es) _ its dp rv
  have hu := hr.units
  refine PySem.W.min_list_data (I.ok.hd hc) hl.isList (by simpa using rd) al (by omega) (fun i v h' tk bs hv hrd hk => ?_)
  have hv' : its[i]? = some v := by simpa using hv
  obtain ⟨y, hy, ry⟩ := vals_back rv hv'
  obtain ⟨d, bs2, hd, rd2⟩ := reads_back rd hv'
  obtain ⟨e1, _⟩ := reads_det (fun b o g _ => hk b o g) rd2 hrd
  rw [← e1] at hd
  exact ⟨y, H, I.kept hk, ry, q i y hy hd⟩
end
end Sg
set_option Elab.async false
set_option linter.all false
set_option maxRecDepth 100000
set_option maxHeartbeats 4000000
set_option Elab.async false
set_option linter.all false
set_option maxRecDepth 100000
set_option maxHeartbeats 4000000
set_option Elab.async false
set_option linter.all false
set_option maxRecDepth 100000
set_option maxHeartbeats 4000000
namespace Sg
open PySem PySem.Spec PyProof.Rows L2 StX
/-! ## calls of a def that stands in a name of the def -/
/-! ## dicts whose keys are tuples of tuples: made by a comprehension, by a display, setdefault -/
theorem roomN0 {A : Around} (hu : A.units + 64 < cLine) (P : Program) (w : World) : (nestedKind P w).room A := by
  show A.units + 8 < cLine
  omega
section
variable {X : Cx} {pins : List (Addr × Obj)} {σ : L2.St} {H : Hp} {s : Shared} {a b : Addr} {k : NestedKey} {rs : List Row} {v z : V} {r : Value} {A : Around} {E : Value → Shared → Prop}
theorem n_dictSet {Q : Unit → Shared → Prop} (hu : A.units + 64 < cLine) (I : Inv X pins σ H s) (n : NAt X.prog X.w H a b k rs) (hl : rs.length < sizeLine) (rv : RelV v r) (h : ∀ s', Inv X pins σ (upd H a (DN X.prog X.w a (storeN rs k b v))) s' → Q () s') :
    wpAny (model X.prog X.w) A (dictSet a (.ref b) r) Q E s := by
  obtain ⟨z, hd, ys, rel, dd⟩ := dn_of I.hok n.at_ n.keys
  have hz : ys.length ≤ sizeLine := by rw [← Paired.length rel]; exact z
  refine wpAny_dictSet_heap (hsz := hz) (roomN0 hu _ _) (n.is I.hok) dd fun h' dd' hs => h _ ?_
  have he : ∃ q, h'.get? a = some q := let ⟨q, _, _, hq, _⟩ := dd'; ⟨q, hq⟩
  exact d_write I (by rw [n.at_]; exact True.intro) hs he (dn_ok (by have := storeN_len rs k b v; omega) hd (storeN_rel rel k b rv) dd')
end
end Sg
set_option Elab.async false
set_option linter.all false
set_option maxRecDepth 100000
set_option maxHeartbeats 4000000
namespace Sg
open PySem PySem.Spec PyProof.Rows L2
section
variable {X : Cx}
/-- a dict comprehension, the keys tuples of tuples -/
def tDcN (P : Program) (w : World) (wi : TI) (g : TG) (tt : TT) (tk tv : TE) (vs : List Nat) : TE := fun σ H Q => wi σ H fun J H1 => ∀ D, H1 D = none → ∃ W : Nat → Nat → Hp → Prop, (∃ m, W 0 m (upd H1 D (DN P w D []))) ∧ ∀ i m H, W i m H →
  (J.stop i H ∧ Q (.ref D) H) ∨ (J.go i H ∧ ∃ Nx : Hp → Prop, (∀ H', Nx H' → ∃ m', m' < m ∧ W (i + 1) m' H') ∧ ∀ x H', J.yld i H x H' → g x (wipe σ vs) H' fun σ2 H2 => wipe σ2 vs = wipe σ vs ∧ tt σ2 H2 fun b H3 =>
    if b = true then tk σ2 H3 fun y H4 => tv σ2 H4 fun z H5 => ∃ b k rs, y = .ref b ∧ NAt P w H5 D b k rs ∧ rs.length < sizeLine ∧ Nx (upd H5 D (DN P w D (storeN rs k b z))) else Nx H3)
theorem dcN_core {pins : List (Addr × Obj)} {s : Shared} {σ : L2.St} {H : Hp} {Q : VK} {kx vx tg iter : Expr} {ifs : List Expr} {scope : Scope} {own : List (Str × Nat)} {pos pos' : Pos} {wi : TI} {g : TG} {tt : TT} {tk tv : TE} {use : Option (Value → Sem Unit)} {Qf : Value → Shared → Prop}
    (hu : X.A.units + 64 < cLine) (hc : X.calm = true) (hN : X.N.Nodup) (I : Inv X pins σ H s) (hi : PI X tg iter wi) (ok : BlkOk X.N X.env.scope scope own)
    (hg : ∀ (s : Shared) (H : Hp) (C : Addr) (cl : List (Str × Addr)) (fp : List Addr), PG (X.blk s H scope (compEnvC scope cl C X.env) fp) tg g) (ht : ∀ (s : Shared) (H : Hp) (C : Addr) (cl : List (Str × Addr)) (fp : List Addr), PTs (X.blk s H scope (compEnvC scope cl C X.env) fp) ifs tt)
    (hk : ∀ (s : Shared) (H : Hp) (C : Addr) (cl : List (Str × Addr)) (fp : List Addr), PE (X.blk s H scope (compEnvC scope cl C X.env) fp) kx tk)
    (he : ∀ (s : Shared) (H : Hp) (C : Addr) (cl : List (Str × Addr)) (fp : List Addr), PE (X.blk s H scope (compEnvC scope cl C X.env) fp) vx tv) (hs : ∀ x, foldedSetIterable iter X.env x = pure x)
    (h : tDcN X.prog X.w wi g tt tk tv (own.map (·.2)) σ H Q)
    (hRR : ∀ D C s' m H', Inv X pins σ H' s' → Q (.ref D) H' → s'.heap.Ns C m → FpOk X pins H' C → compPost (model X.prog X.w) X.A X.xe use Qf (.ref D) C (.ok .next) s') :
    wpAny (model X.prog X.w) X.A (comprehension (.DictComp kx vx [⟨tg, iter, ifs, 0⟩] scope pos) scope X.env pos' newDict false (eval iter X.env) use) Qf X.xe s := by
  have hfree : ∀ y ∈ scope.names, y.2 = .free → ∃ c, X.env.cells.lookup y.1 = some c := fun y hy e => by
    rcases ok.free y hy e with k | k
    · exact I.ok.has _ (.inl k)
    · exact I.ok.has _ (.inr k)
  refine wpAny_comprehension_free (use := use) rfl hs (closure_ok hfree) ok.kind (fun y hy e => by rw [ok.uniq y hy, e])
    (thn (hi.run pins s σ H _ I h) fun xv s1 hx => thn hx fun itv s2 h2 => ?_)
  obtain ⟨it, fp, tn, J, H2, e, I2, T, st2, f2, q⟩ := h2
  subst e
  refine wpAny_newObj_type (newEnv_comp ?_)
  generalize hD : s2.heap.objs.size = D
  have hDn : H2 D = none := I2.hok.fresh (Nat.le_of_eq hD)
  obtain ⟨W, ⟨m0, w0⟩, turn⟩ := q D hDn
  -- the new list
  generalize hs3 : ({ s2 with heap := s2.heap.push { cls := .type "dict", data := .dict #[] } } : Shared) = s3
  have I3 : Inv X pins σ (upd H2 D (DN X.prog X.w D [])) s3 := by
    rw [← hs3]
    refine I2.laid (t' := s2.toks) (fun b o e => Heap.get?_push_of_some _ e) (Nat.le_of_eq hD) ?_
    rw [← hD]
    exact dn_empty s2.heap I2.big
  have h3 : s3.heap = s2.heap.push { cls := .type "dict", data := .dict #[] } := by rw [← hs3]
  have sz : ∀ b ∈ fp, b < s2.heap.objs.size := fun b hb => by
    obtain ⟨o, e, _⟩ := T.obj _ _ st2 b hb
    exact Heap.lt_size e
  have f3 : ∀ b ∈ fp, FpOk X pins (upd H2 D (DN X.prog X.w D [])) b ∧ b < s3.heap.objs.size := fun b hb => by
    have hlt := sz b hb
    refine ⟨⟨?_, (f2 b hb).2⟩, by rw [h3, Heap.size_push]; exact Nat.lt_succ_of_lt hlt⟩
    rw [upd_ne (by rw [← hD]; exact Nat.ne_of_lt hlt)]
    exact (f2 b hb).1
  have st3 : tn 0 s3.heap := T.keep _ _ _ st2 fun b _ o e => by rw [h3]; exact Heap.get?_push_of_some _ e
  have I4 := block_start I3 ok hN f3
  have pg := hg s3 (upd H2 D (DN X.prog X.w D [])) s3.heap.objs.size (cellsFrom (s3.heap.objs.size + 1) scope.names (cloFrom X.env.cells scope.names [])) fp
  have pt := ht s3 (upd H2 D (DN X.prog X.w D [])) s3.heap.objs.size (cellsFrom (s3.heap.objs.size + 1) scope.names (cloFrom X.env.cells scope.names [])) fp
  have pk := hk s3 (upd H2 D (DN X.prog X.w D [])) s3.heap.objs.size (cellsFrom (s3.heap.objs.size + 1) scope.names (cloFrom X.env.cells scope.names [])) fp
  have pe := he s3 (upd H2 D (DN X.prog X.w D [])) s3.heap.objs.size (cellsFrom (s3.heap.objs.size + 1) scope.names (cloFrom X.env.cells scope.names [])) fp
  show codeAny _ _ (.compStart (.DictComp kx vx [⟨tg, iter, ifs, 0⟩] scope pos) 0 (.ref it) (.ref D) (compEnvC scope (cellsFrom (s3.heap.objs.size + 1) scope.names (cloFrom X.env.cells scope.names [])) s3.heap.objs.size X.env)) (compPost (model X.prog X.w) X.A X.xe use Qf (.ref D) s3.heap.objs.size) { s3 with heap := pushCells (s3.heap.push { cls := .type "dict", data := .dict #[] }) scope.names }
  have nfp : ∀ b ∈ fp, (upd H2 D (DN X.prog X.w D [])) b = none := fun b hb => (f3 b hb).1.1
  generalize hce : compEnvC scope (cellsFrom (s3.heap.objs.size + 1) scope.names (cloFrom X.env.cells scope.names [])) s3.heap.objs.size X.env = ce at I4 pg pt pk pe ⊢
  have cL : ce.locals = s3.heap.objs.size := by subst hce; rfl
  generalize hH3 : upd H2 D (DN X.prog X.w D []) = H3 at I3 I4 pg pt pk pe w0 nfp f3
  generalize hs4 : ({ s3 with heap := pushCells (s3.heap.push { cls := .type "dict", data := .dict #[] }) scope.names } : Shared) = s4 at I4 ⊢
  have st4 : tn 0 s4.heap := T.keep _ _ _ st3 fun b _ o e => by rw [← hs4]; exact pushCells_keeps _ _ _ _ (Heap.get?_push_of_some _ e)
  have stat : ∀ {σ' : L2.St} {H' : Hp} {s' : Shared}, Inv (X.blk s3 H3 scope ce fp) [] σ' H' s' → (∀ b ∈ fp, H' b = none) → ∀ b ∈ fp, FpOk (X.blk s3 H3 scope ce fp) [] H' b := fun {σ' H' s'} I' hn b hb =>
    ⟨hn b hb, (I'.ok.exf b hb).1, I'.ok.exfs b hb, .inl hb, fun x c e => (I'.ok.exf b hb).2 x c e, fun p hp => absurd (show p ∈ ([] : List (Addr × Obj)) ++ [] from hp) (by simp)⟩
  have loop : codeAny (model X.prog X.w) X.A (.compLoop (.DictComp kx vx [⟨tg, iter, ifs, 0⟩] scope pos) 0 (.ref it) (.ref D) ce) (compPost (model X.prog X.w) X.A X.xe use Qf (.ref D) s3.heap.objs.size) s4 := by
    refine compLoop_anyD (fun n s' => ∃ i H', Inv (X.blk s3 H3 scope ce fp) [] (wipe σ (own.map (·.2))) H' s' ∧ tn i s'.heap ∧ (∀ b ∈ fp, H' b = none) ∧ W i n H') ?_ m0 ⟨0, H3, I4, st4, nfp, w0⟩
    rintro n s5 ⟨i, H5, I5, st5, n5, w5⟩
    rcases turn i n H5 w5 with ⟨stop, qq⟩ | ⟨go, Nx, hNx, step⟩
    · have td := T.done (X.blk s3 H3 scope ce fp) rfl rfl rfl hc i [] s5 _ H5 (fun _ _ => False) I5 (stat I5 n5) st5 stop
      refine thnF td fun r s6 ⟨hr, I6⟩ => ?_
      subst hr
      -- back in the def's context
      have I7 : Inv X pins σ H5 s6 := I3.call' (ch := fp) I6.os I6.base I6.hok I6.bare fun b hb => ⟨(f3 b hb).1.2.2.2.1, (f3 b hb).1.2.1, (f3 b hb).1.2.2.2.2.1, (f3 b hb).1.2.2.2.2.2⟩
      have nC : H5 s3.heap.objs.size = none := by
        have z : H5 ce.locals = none := I6.free
        rw [cL] at z
        exact z
      obtain ⟨m, hn, _⟩ := I6.loc
      have hn : s6.heap.Ns ce.locals m := hn
      rw [cL] at hn
      exact hRR D s3.heap.objs.size s6 m H5 I7 qq hn (I3.fpOk (Nat.le_refl _) nC)
    · have ti := T.item (X.blk s3 H3 scope ce fp) rfl rfl rfl hc i [] s5 _ H5 (fun _ _ => False) I5 (stat I5 n5) st5 go
      refine thnF ti fun r s6 ⟨u, hr, h6⟩ => ?_
      subst hr
      refine thnF h6 fun _ s7 ⟨x, H7, I7, r7, y7, st7, n7⟩ => ?_
      have I7' := I7.pinned (stat I7 n7) (T.obj _ _ st7)
      refine thnF (pg.run _ s7 _ H7 x u _ I7' r7 (step x H7 y7)) fun _ s8 ⟨σ8, H8, I8, hw8, q8⟩ => ?_
      refine thnF (pt.run _ s8 σ8 H8 _ I8 q8) fun b s9 ⟨H9, I9, q9⟩ => ?_
      -- the turn's end
      have fin : ∀ {s' : Shared} {H' : Hp}, Inv (X.blk s3 H3 scope ce fp) ([] ++ pinsAt fp s7.heap) σ8 H' s' → Nx H' → ∃ m, m < n ∧ ∃ i H', Inv (X.blk s3 H3 scope ce fp) [] (wipe σ (own.map (·.2))) H' s' ∧ tn i s'.heap ∧ (∀ b ∈ fp, H' b = none) ∧ W i m H' := fun {s' H'} I' nx => by
        obtain ⟨m', hm, w'⟩ := hNx H' nx
        have pin' : ∀ b ∈ fp, ∀ o, s7.heap.get? b = some o → s'.heap.get? b = some o ∧ H' b = none := fun b hb o e =>
          let z := I'.pin (b, o) (List.mem_append_right _ (List.mem_append_right _ (mem_pinsAt hb e)))
          ⟨z.1, z.2.1⟩
        have hl : (wipe σ (own.map (·.2))).length = σ8.length := by rw [← hw8, wipe_length]
        refine ⟨m', hm, i + 1, H', (I'.unpinned (pins := [])).weak hl (fun j v e => ?_), T.keep _ _ _ st7 fun b hb o e => (pin' b hb o e).1, fun b hb => ?_, w'⟩
        · rw [← hw8] at e
          exact (wipe_some e).1
        · obtain ⟨o, e, _⟩ := T.obj _ _ st7 b hb
          exact (pin' b hb o e).2
      cases b with
      | false =>
        simp only [Bool.false_eq_true, if_false] at q9 ⊢
        exact fin I9 q9
      | true =>
        simp only [if_true] at q9 ⊢
        refine thnF (pk.run _ s9 σ8 H9 _ I9 q9) fun z s10 ⟨yk, H10, I10, r10, q10⟩ => ?_
        refine thnF (pe.run _ s10 σ8 H10 _ I10 q10) fun z2 s11 ⟨yv, H11, I11, r11, b, k, rs, ek, hD11, hz11, nx⟩ => ?_
        subst ek
        obtain rfl : z = Value.ref b := r10
        exact n_dictSet (X := X.blk s3 H3 scope ce fp) hu I11 hD11 hz11 r11 fun s12 I12 => fin I12 nx
  exact codeAny_compStart_dict loop (T.self X.A 0 _ _ _ st4 loop)
theorem pe_dcN {kx vx tg iter : Expr} {ifs : List Expr} {scope : Scope} {own : List (Str × Nat)} {pos : Pos} {wi : TI} {g : TG} {tt : TT} {tk tv : TE} (hu : X.A.units + 64 < cLine) (hc : X.calm = true) (hN : X.N.Nodup) (hi : PI X tg iter wi) (ok : BlkOk X.N X.env.scope scope own)
    (hg : ∀ (s : Shared) (H : Hp) (C : Addr) (cl : List (Str × Addr)) (fp : List Addr), PG (X.blk s H scope (compEnvC scope cl C X.env) fp) tg g) (ht : ∀ (s : Shared) (H : Hp) (C : Addr) (cl : List (Str × Addr)) (fp : List Addr), PTs (X.blk s H scope (compEnvC scope cl C X.env) fp) ifs tt)
    (hk : ∀ (s : Shared) (H : Hp) (C : Addr) (cl : List (Str × Addr)) (fp : List Addr), PE (X.blk s H scope (compEnvC scope cl C X.env) fp) kx tk)
    (he : ∀ (s : Shared) (H : Hp) (C : Addr) (cl : List (Str × Addr)) (fp : List Addr), PE (X.blk s H scope (compEnvC scope cl C X.env) fp) vx tv) (hs : ∀ x, foldedSetIterable iter X.env x = pure x := by intro _; rfl) :
    PE X (.DictComp kx vx [⟨tg, iter, ifs, 0⟩] scope pos) (tDcN X.prog X.w wi g tt tk tv (own.map (·.2))) := by
  refine ⟨fun pins s σ H Q I h => ?_⟩
  rw [arm_eval_DictComp]
  refine dcN_core hu hc hN I hi ok hg ht hk he hs h fun D C s' m H' I' q hn f => ⟨m, hn, fun h'' sb => ?_⟩
  obtain ⟨f0, f1, f2, f3, f4, f5⟩ := f
  exact ⟨.ref D, H', I'.turned (t' := s'.toks) (fun b o hb e => (sb.2 b hb).trans e) f0 f1 f3 f4 f5, rfl, q⟩
theorem pe_dcNK {P : Program} {w : World} {kx vx tg iter : Expr} {ifs : List Expr} {scope : Scope} {own : List (Str × Nat)} {pos : Pos} {wi : TI} {g : TG} {tt : TT} {tk tv : TE} (hP : X.prog = P) (hw : X.w = w) (hu : X.A.units + 64 < cLine) (hc : X.calm = true) (hN : X.N.Nodup) (hi : PI X tg iter wi) (ok : BlkOk X.N X.env.scope scope own)
    (hg : ∀ (s : Shared) (H : Hp) (C : Addr) (cl : List (Str × Addr)) (fp : List Addr), PG (X.blk s H scope (compEnvC scope cl C X.env) fp) tg g) (ht : ∀ (s : Shared) (H : Hp) (C : Addr) (cl : List (Str × Addr)) (fp : List Addr), PTs (X.blk s H scope (compEnvC scope cl C X.env) fp) ifs tt)
    (hk : ∀ (s : Shared) (H : Hp) (C : Addr) (cl : List (Str × Addr)) (fp : List Addr), PE (X.blk s H scope (compEnvC scope cl C X.env) fp) kx tk)
    (he : ∀ (s : Shared) (H : Hp) (C : Addr) (cl : List (Str × Addr)) (fp : List Addr), PE (X.blk s H scope (compEnvC scope cl C X.env) fp) vx tv) (hs : ∀ x, foldedSetIterable iter X.env x = pure x := by intro _; rfl) :
    PE X (.DictComp kx vx [⟨tg, iter, ifs, 0⟩] scope pos) (tDcN P w wi g tt tk tv (own.map (·.2))) := by
  subst hP hw; exact pe_dcN hu hc hN hi ok hg ht hk he hs
/-- such a walk, by a promise for each turn -/
theorem dcN_it {P : Program} {w : World} {J : L2.It} {n : Nat} {G : Hp → Prop} {Y : Nat → Hp → V → Hp → Prop} (wk : Walk J n G Y) {g : TG} {tt : TT} {tk tv : TE} {vs : List Nat} {σ : L2.St} {H1 : Hp} {D : Addr} {Qd : Hp → Prop} (Pv : Nat → Hp → Prop) (h0 : Pv 0 (upd H1 D (DN P w D []))) (hG : ∀ i H, i ≤ n → Pv i H → G H)
    (hs : ∀ i x H H', i < n → Pv i H → Y i H x H' → g x (wipe σ vs) H' fun σ2 H2 => wipe σ2 vs = wipe σ vs ∧ tt σ2 H2 fun b H3 =>
      if b = true then tk σ2 H3 fun y H4 => tv σ2 H4 fun z H5 => ∃ b k rs, y = .ref b ∧ NAt P w H5 D b k rs ∧ rs.length < sizeLine ∧ Pv (i + 1) (upd H5 D (DN P w D (storeN rs k b z))) else Pv (i + 1) H3) (hd : ∀ H, Pv n H → Qd H) :
    ∃ W : Nat → Nat → Hp → Prop, (∃ m, W 0 m (upd H1 D (DN P w D []))) ∧ ∀ i m H, W i m H →
      (J.stop i H ∧ Qd H) ∨ (J.go i H ∧ ∃ Nx : Hp → Prop, (∀ H', Nx H' → ∃ m', m' < m ∧ W (i + 1) m' H') ∧ ∀ x H', J.yld i H x H' → g x (wipe σ vs) H' fun σ2 H2 => wipe σ2 vs = wipe σ vs ∧ tt σ2 H2 fun b H3 =>
        if b = true then tk σ2 H3 fun y H4 => tv σ2 H4 fun z H5 => ∃ b k rs, y = .ref b ∧ NAt P w H5 D b k rs ∧ rs.length < sizeLine ∧ Nx (upd H5 D (DN P w D (storeN rs k b z))) else Nx H3) := by
  refine ⟨fun i m H => m = n - i ∧ i ≤ n ∧ Pv i H, ⟨n, by simp, Nat.zero_le _, h0⟩, ?_⟩
  rintro i m H ⟨rfl, hi, hp⟩
  have hg := hG i H hi hp
  rcases Nat.lt_or_eq_of_le hi with hlt | rfl
  · exact .inr ⟨wk.goes i H hlt hg, Pv (i + 1), fun H' p' => ⟨n - (i + 1), by omega, rfl, hlt, p'⟩, fun x H' y => hs i x H H' hlt hp (wk.yields i H x H' hlt hg y)⟩
  · exact .inl ⟨wk.stops H hg, hd H hp⟩
end
end Sg
set_option Elab.async false
set_option linter.all false
set_option maxRecDepth 100000
set_option maxHeartbeats 4000000
set_option Elab.async false
set_option linter.all false
set_option maxRecDepth 100000
set_option maxHeartbeats 4000000
namespace Sg
open PySem PySem.Spec PyProof.Rows L2
/-! ## x < y of data -/
def rLtD (K : PySem.W.Frag) : R2 := fun x y H Q => ∃ d e, Dp K H x d ∧ Dp K H y e ∧ PySem.W.alike d e = true ∧ d ≠ .none ∧ d.depth ≤ 40 ∧ Q (.bl (PySem.W.dataLt d e)) H
theorem op_ltD {X : Cx} (hu : X.A.units + 64 < cLine) : OpR X (compareOp .Lt) (rLtD X.K) := by
  intro pins s σ H x y v u Q I rx ry h
  obtain ⟨d, e, hd, he, al, nn, dp, q⟩ := h
  obtain ⟨as, r1⟩ := Dp.reads I d x v hd rx
  obtain ⟨bs, r2⟩ := Dp.reads I e y u he ry
  exact PySem.W.lt_data r1 r2 al nn (by have := Nat.min_le_left d.depth e.depth; omega) ⟨.bl _, H, I, rfl, q⟩
/-! ## places: a number and a tuple of ints, as keys -/
abbrev PlcK := Nat × List Int
def pkk (p : PlcK) : NestedKey := .tup [.num (p.1 : Int), .tup (p.2.map .num)]
def PlaceAt (H : Hp) (b : Addr) (p : PlcK) : Prop := ∃ lf, H b = some (.tup [.int (p.1 : Nat), .ref lf]) ∧ H lf = some (.tup (p.2.map V.int))
theorem PlaceAt.keep {H H' : Hp} (e : KeepT H H') {b : Addr} {p : PlcK} (h : PlaceAt H b p) : PlaceAt H' b p := by
  obtain ⟨lf, h1, h2⟩ := h
  exact ⟨lf, e _ _ h1, e _ _ h2⟩
theorem keys_ints (H : Hp) : ∀ ns : List Int, KeyAll H (ns.map .num) (ns.map V.int)
  | [] => .no
  | n :: ns => .on (.int n) (keys_ints H ns)
theorem PlaceAt.key {H : Hp} {b : Addr} {p : PlcK} (h : PlaceAt H b p) : KeyAt H (pkk p) (.ref b) := by
  obtain ⟨lf, h1, h2⟩ := h
  exact .tup h1 (.on (.int _) (.on (.tup h2 (keys_ints H _)) .no))
theorem depth_numsI : ∀ (r : List Int), NestedKey.depthAll (r.map NestedKey.num) = 0
  | [] => by rw [List.map_nil, NestedKey.depthAll]
  | d :: r => by rw [List.map_cons, NestedKey.depthAll, depth_numsI r, NestedKey.depth]; rfl
theorem pkk_deep (p : PlcK) : (pkk p).depth ≤ 8 := by
  have := depth_numsI p.2
  unfold pkk
  simp only [NestedKey.depth, NestedKey.depthAll]
  omega
theorem numI_inj : ∀ {x y : List Int}, x.map NestedKey.num = y.map NestedKey.num → x = y
  | [], [], _ => rfl
  | [], _ :: _, h => nomatch h
  | _ :: _, [], h => nomatch h
  | a :: x, b :: y, h => by
    obtain ⟨h1, h2⟩ := List.cons.inj h
    rw [NestedKey.num.inj h1, numI_inj h2]
theorem pkk_inj {x y : PlcK} (h : pkk x = pkk y) : x = y := by
  have h := NestedKey.tup.inj h
  obtain ⟨h1, h2⟩ := List.cons.inj h
  obtain ⟨h3, _⟩ := List.cons.inj h2
  exact Prod.ext (by have := NestedKey.num.inj h1; omega) (numI_inj (NestedKey.tup.inj h3))
/-! ### rows of such a dict -/
def lookF {α : Type} (l : List (PlcK × α)) (k : PlcK) : Option α := (l.find? fun e => decide (e.1 = k)).map (·.2)
structure DRowP {α : Type} (Rv : Hp → V → α → Prop) (H : Hp) (r : Row) (e : PlcK × α) : Prop where
  key : r.1 = pkk e.1
  at_ : PlaceAt H r.2.1 e.1
  val : Rv H r.2.2 e.2
abbrev RowsP {α : Type} (Rv : Hp → V → α → Prop) (H : Hp) : List Row → List (PlcK × α) → Prop := Paired (DRowP Rv H)
theorem RowsP.keep {α : Type} {Rv : Hp → V → α → Prop} {H H' : Hp} (kt : KeepT H H') (kv : ∀ v x, Rv H v x → Rv H' v x) {rs : List Row} {l : List (PlcK × α)} (h : RowsP Rv H rs l) : RowsP Rv H' rs l := by
  unfold RowsP at h ⊢
  induction h with
  | nil => exact .nil
  | cons a t ih => exact .cons ⟨a.key, a.at_.keep kt, kv _ _ a.val⟩ ih
theorem RowsP.keys {α : Type} {Rv : Hp → V → α → Prop} {H : Hp} {rs : List Row} {l : List (PlcK × α)} (h : RowsP Rv H rs l) : KeysIn H rs := by
  unfold RowsP at h
  induction h with
  | nil => intro r hr; exact nomatch hr
  | cons a t ih =>
    intro r hr
    rcases List.mem_cons.mp hr with rfl | hr
    · rw [a.key]; exact ⟨a.at_.key, pkk_deep _⟩
    · exact ih r hr
theorem RowsP.look {α : Type} {Rv : Hp → V → α → Prop} {H : Hp} {rs : List Row} {l : List (PlcK × α)} (h : RowsP Rv H rs l) (k : PlcK) : (lookF l k = none → atN rs (pkk k) = none) ∧ ∀ x, lookF l k = some x → ∃ v, atN rs (pkk k) = some v ∧ Rv H v x := by
  unfold RowsP at h
  induction h with
  | nil => exact ⟨fun _ => rfl, fun x e => nomatch e⟩
  | @cons r e rs l a t ih =>
    unfold lookF atN at ih ⊢
    by_cases g : e.1 = k
    · have g2 : r.1 = pkk k := by rw [a.key, g]
      rw [List.find?_cons_of_pos (p := fun e : PlcK × α => decide (e.1 = k)) (decide_eq_true g), List.find?_cons_of_pos (p := fun r : Row => decide (r.1 = pkk k)) (decide_eq_true g2)]
      refine And.intro (fun z => nomatch (show some e.2 = none from z)) fun x z => ?_
      have z : some e.2 = some x := z
      cases z
      exact ⟨_, rfl, a.val⟩
    · have g2 : ¬ r.1 = pkk k := fun z => g (pkk_inj (a.key.symm.trans z))
      rw [List.find?_cons_of_neg (p := fun e : PlcK × α => decide (e.1 = k)) (by simpa using g), List.find?_cons_of_neg (p := fun r : Row => decide (r.1 = pkk k)) (by simpa using g2)]
      exact ih
theorem RowsP.isSome {α : Type} {Rv : Hp → V → α → Prop} {H : Hp} {rs : List Row} {l : List (PlcK × α)} (h : RowsP Rv H rs l) (k : PlcK) : (atN rs (pkk k)).isSome = (lookF l k).isSome := by
  obtain ⟨h1, h2⟩ := h.look k
  cases e : lookF l k with
  | none => rw [h1 e]; rfl
  | some x =>
    obtain ⟨v, hv, _⟩ := h2 x e
    rw [hv]; rfl
theorem RowsP.len {α : Type} {Rv : Hp → V → α → Prop} {H : Hp} {rs : List Row} {l : List (PlcK × α)} (h : RowsP Rv H rs l) : rs.length = l.length := Paired.length h
/-! ## the search through the layers, as the program does it -/
abbrev Nx := List Int → List (Int × List Int)
end Sg
set_option Elab.async false
set_option linter.all false
set_option maxRecDepth 100000
set_option maxHeartbeats 4000000
namespace Sg
open PySem PySem.Spec PyProof.Rows L2
/-! ## what may come next: a dict from ints to tuples of ints -/
def NxAt (H : Hp) : List (L2.Key × V) → List (Int × List Int) → Prop := Paired fun kv p => kv.1 = .inl p.1 ∧ ∃ c, kv.2 = V.ref c ∧ H c = some (.tup (p.2.map V.int))
theorem NxAt.keep {H H' : Hp} (e : KeepT H H') {kvs : List (L2.Key × V)} {l : List (Int × List Int)} (h : NxAt H kvs l) : NxAt H' kvs l := by
  unfold NxAt at h ⊢
  induction h with
  | nil => exact .nil
  | cons a t ih =>
    obtain ⟨h1, c, h2, h3⟩ := a
    exact .cons ⟨h1, c, h2, e _ _ h3⟩ ih
theorem NxAt.look {H : Hp} {kvs : List (L2.Key × V)} {l : List (Int × List Int)} (h : NxAt H kvs l) (c : Int) : ((l.find? fun p => decide (p.1 = c)) = none → L2.valV kvs (.inl c) = none) ∧
    ∀ p, (l.find? fun p => decide (p.1 = c)) = some p → ∃ t, L2.valV kvs (.inl c) = some (.ref t) ∧ H t = some (.tup (p.2.map V.int)) := by
  unfold NxAt at h
  induction h with
  | nil => exact ⟨fun _ => rfl, fun p e => nomatch e⟩
  | @cons kv p kvs l a t ih =>
    obtain ⟨h1, b, h2, h3⟩ := a
    unfold L2.valV at ih ⊢
    by_cases g : p.1 = c
    · have g2 : kv.1 = Sum.inl c := by rw [h1, g]
      rw [List.find?_cons_of_pos (p := fun e : Int × List Int => decide (e.1 = c)) (decide_eq_true g), List.find?_cons_of_pos (p := fun r : L2.Key × V => decide (r.1 = Sum.inl c)) (decide_eq_true g2)]
      refine And.intro (fun z => nomatch (show some p = none from z)) fun x z => ?_
      have z : some p = some x := z
      cases z
      exact ⟨b, by show some kv.2 = _; rw [h2], h3⟩
    · have g2 : ¬ kv.1 = Sum.inl c := fun z => g (Sum.inl.inj (h1.symm.trans z))
      rw [List.find?_cons_of_neg (p := fun e : Int × List Int => decide (e.1 = c)) (by simpa using g), List.find?_cons_of_neg (p := fun r : L2.Key × V => decide (r.1 = Sum.inl c)) (by simpa using g2)]
      exact ih
theorem NxAt.len {H : Hp} {kvs : List (L2.Key × V)} {l : List (Int × List Int)} (h : NxAt H kvs l) : kvs.length = l.length := Paired.length h
/-! ## what can be done in a tick: a list of pairs (place, plan) -/
def StepAt (H : Hp) (v : V) (x : PlcK × List Plc) : Prop := ∃ t b pn, v = V.ref t ∧ H t = some (.tup [.ref b, .ref pn]) ∧ PlaceAt H b x.1 ∧ TkAt H pn x.2
theorem StepAt.keep {H H' : Hp} (e : KeepT H H') {v : V} {x : PlcK × List Plc} (h : StepAt H v x) : StepAt H' v x := by
  obtain ⟨t, b, pn, h1, h2, h3, h4⟩ := h
  exact ⟨t, b, pn, h1, e _ _ h2, h3.keep e, h4.keep e⟩
abbrev StepsAt (H : Hp) : List V → List (PlcK × List Plc) → Prop := Paired (StepAt H)
theorem StepsAt.keep {H H' : Hp} (e : KeepT H H') {us : List V} {xs : List (PlcK × List Plc)} (h : StepsAt H us xs) : StepsAt H' us xs := by
  unfold StepsAt at h ⊢
  induction h with
  | nil => exact .nil
  | cons a t ih => exact .cons (a.keep e) ih
theorem StepsAt.at {H : Hp} {us : List V} {xs : List (PlcK × List Plc)} (h : StepsAt H us xs) : ∀ {i : Nat} {u : V}, us[i]? = some u → ∃ x, xs[i]? = some x ∧ StepAt H u x := by
  unfold StepsAt at h
  induction h with
  | nil => intro i u e; exact nomatch e
  | cons a t ih =>
    intro i u e
    cases i with
    | zero => cases e; exact ⟨_, rfl, a⟩
    | succ i => exact ih e
end Sg
set_option Elab.async false
set_option linter.all false
set_option maxRecDepth 100000
set_option maxHeartbeats 4000000
namespace Sg
open PySem PySem.Spec PyProof.Rows L2
/-! ## keys of the search -/
theorem lookF_none {α : Type} {l : List (PlcK × α)} {k : PlcK} (h : lookF l k = none) : ∀ e ∈ l, e.1 ≠ k := fun e he z => by
  unfold lookF at h
  rw [Option.map_eq_none_iff, List.find?_eq_none] at h
  exact h e he (decide_eq_true z)
structure KeysU {α : Type} (U : List PlcK) (l : List (PlcK × α)) : Prop where
  nd : (l.map (·.1)).Nodup
  sub : ∀ e ∈ l, e.1 ∈ U
theorem KeysU.few {α : Type} {U : List PlcK} {l : List (PlcK × α)} (h : KeysU U l) : l.length ≤ U.length := by
  have := nodup_len_le (l.map (·.1)) U h.nd fun k hk => by
    obtain ⟨e, he, rfl⟩ := List.mem_map.mp hk
    exact h.sub e he
  rwa [List.length_map] at this
theorem KeysU.nil {α : Type} {U : List PlcK} : KeysU U ([] : List (PlcK × α)) := ⟨List.nodup_nil, fun e he => nomatch he⟩
theorem KeysU.add {α : Type} {U : List PlcK} {l : List (PlcK × α)} (h : KeysU U l) {k : PlcK} {v : α} (hk : k ∈ U) (hn : lookF l k = none) : KeysU U (l ++ [(k, v)]) := by
  refine ⟨?_, fun e he => ?_⟩
  · rw [List.map_append, List.nodup_append]
    refine ⟨h.nd, List.nodup_cons.mpr ⟨List.not_mem_nil, List.nodup_nil⟩, fun a ha b hb z => ?_⟩
    obtain ⟨e, he, rfl⟩ := List.mem_map.mp ha
    have hb : b = k := List.mem_singleton.mp hb
    exact lookF_none hn e he (z.trans hb)
  · rcases List.mem_append.mp he with he | he
    · exact h.sub e he
    · rw [List.mem_singleton.mp he]; exact hk
theorem foldl_take {α β : Type} (f : β → α → β) (b : β) {l : List α} {i : Nat} {x : α} (h : l[i]? = some x) : (l.take (i + 1)).foldl f b = f ((l.take i).foldl f b) x := by
  rw [List.take_add_one, h, List.foldl_append]; rfl
/-! ## what stands in the dicts -/
abbrev FirV : Hp → V → Nat → Prop := fun _ v t => v = V.int (t : Nat)
abbrev PlanV : Hp → V → List Plc → Prop := fun H v p => ∃ pn, v = V.ref pn ∧ TkAt H pn p
theorem FirV.keep {H H' : Hp} : ∀ v x, FirV H v x → FirV H' v x := fun _ _ h => h
theorem PlanV.keep {H H' : Hp} (e : KeepT H H') : ∀ v x, PlanV H v x → PlanV H' v x := fun v x ⟨pn, h1, h2⟩ => ⟨pn, h1, h2.keep e⟩
/-- all but two places stays -/
def But2 (p q : Addr) (H H' : Hp) : Prop := ∀ b o, b ≠ p → b ≠ q → H b = some o → H' b = some o
theorem But2.trans {p q : Addr} {H H1 H2 : Hp} (a : But2 p q H H1) (b : But2 p q H1 H2) : But2 p q H H2 := fun c o n m h => b c o n m (a c o n m h)
theorem But2.of {p q : Addr} {H H' : Hp} (a : Same H H') : But2 p q H H' := fun c o _ _ h => a c o h
end Sg
set_option Elab.async false
set_option linter.all false
set_option maxRecDepth 100000
set_option maxHeartbeats 4000000
namespace Sg
/-! ## cycles of what raised the prices -/
abbrev Came := List (Option (Nat × Int))
/-- from v to u by what raised them: gains and steps -/
inductive Pth (c : Came) : Nat → Nat → Int → Nat → Prop
  | one {v u : Nat} {g : Int} : c[v]? = some (some (u, g)) → Pth c v u g 1
  | cons {v u x : Nat} {g s : Int} {n : Nat} : c[v]? = some (some (u, g)) → Pth c u x s n → Pth c v x (g + s) (n + 1)
theorem Pth.pos {c : Came} {v u : Nat} {s : Int} {n : Nat} (h : Pth c v u s n) : 1 ≤ n := by
  cases h with
  | one _ => exact Nat.le_refl _
  | cons _ _ => omega
theorem Pth.app {c : Came} {v u x : Nat} {s r : Int} {n m : Nat} (h : Pth c v u s n) (k : Pth c u x r m) : Pth c v x (s + r) (n + m) := by
  induction h with
  | one e => rw [Nat.add_comm]; exact .cons e k
  | @cons v u y g s n e _ ih =>
    have := Pth.cons e (ih k)
    rw [show g + s + r = g + (s + r) from by omega, show n + 1 + m = n + m + 1 from by omega]
    exact this
/-- price of a node -/
abbrev prc (p : List Int) (v : Nat) : Int := p.getD v 0
/-- bottom times a gain, less top -/
abbrev wgt (hi : Int × Int) (g : Int) : Int := hi.2 * g - hi.1
structure CameOk (hi : Int × Int) (p : List Int) (c : Came) : Prop where
  low : ∀ v u g, c[v]? = some (some (u, g)) → prc p v ≤ prc p u + wgt hi g
  cyc : ∀ v s n, Pth c v v s n → 0 < hi.2 * s - (n : Nat) * hi.1
theorem CameOk.path {hi : Int × Int} {p : List Int} {c : Came} (h : ∀ v u g, c[v]? = some (some (u, g)) → prc p v ≤ prc p u + wgt hi g) {v x : Nat} {s : Int} {n : Nat} (k : Pth c v x s n) : prc p v ≤ prc p x + (hi.2 * s - (n : Nat) * hi.1) := by
  induction k with
  | one e =>
    have := h _ _ _ e
    unfold wgt at this
    rw [show ((1 : Nat) : Int) * hi.1 = hi.1 from Int.one_mul _]
    exact this
  | @cons v u x g s n e _ ih =>
    have a := h _ _ _ e
    unfold wgt at a
    have m1 : hi.2 * (g + s) = hi.2 * g + hi.2 * s := Int.mul_add _ _ _
    have m2 : ((n + 1 : Nat) : Int) * hi.1 = (n : Nat) * hi.1 + hi.1 := by rw [Int.natCast_succ, Int.add_mul, Int.one_mul]
    rw [m1, m2]
    omega
theorem came_set {c : Came} {v x : Nat} {o : Option (Nat × Int)} {y : Nat × Int} (h : (c.set v o)[x]? = some (some y)) : (x ≠ v ∧ c[x]? = some (some y)) ∨ (x = v ∧ o = some y) := by
  rw [List.getElem?_set] at h
  by_cases e : v = x
  · rw [if_pos e] at h
    split at h
    · exact .inr ⟨e.symm, Option.some.inj h⟩
    · exact nomatch h
  · rw [if_neg e] at h
    exact .inl ⟨fun z => e z.symm, h⟩
/-- a way by the new table: by the old one, or through the node that is new -/
theorem pth_new {c : Came} {v u : Nat} {g : Int} {x y : Nat} {s : Int} {n : Nat} (h : Pth (c.set v (some (u, g))) x y s n) :
    Pth c x y s n ∨ (x = v ∨ ∃ s1 n1, Pth c x v s1 n1 ∧ Pth (c.set v (some (u, g))) x v s1 n1 ∧ ∃ s2 n2, Pth (c.set v (some (u, g))) v y s2 n2 ∧ s = s1 + s2 ∧ n = n1 + n2) := by
  induction h with
  | @one x y h1 e =>
    rcases came_set e with ⟨_, e2⟩ | ⟨e2, _⟩
    · exact .inl (.one e2)
    · exact .inr (.inl e2)
  | @cons x z y h1 s n e k ih =>
    rcases came_set e with ⟨_, e2⟩ | ⟨e2, _⟩
    · rcases ih with ih | ih | ⟨s1, n1, k1, k1', s2, n2, k2, d1, d2⟩
      · exact .inl (.cons e2 ih)
      · subst ih
        exact .inr (.inr ⟨_, _, .one e2, .one e, s, n, k, rfl, Nat.add_comm n 1⟩)
      · exact .inr (.inr ⟨_, _, .cons e2 k1, .cons e k1', s2, n2, k2, by omega, by omega⟩)
    · exact .inr (.inl e2)
/-- a raise keeps the table right -/
theorem CameOk.raise {hi : Int × Int} {p : List Int} {c : Came} (h : CameOk hi p c) {u v : Nat} {g : Int} (hv : v < p.length) (hm : 0 < wgt hi g - (prc p v - prc p u)) :
    CameOk hi (p.set v (prc p u + wgt hi g)) (c.set v (some (u, g))) := by
  have get : ∀ x, prc (p.set v (prc p u + wgt hi g)) x = if v = x then prc p u + wgt hi g else prc p x := fun x => by
    unfold prc
    rw [List.getD_eq_getElem?_getD, List.getElem?_set]
    by_cases e : v = x
    · subst e
      rw [if_pos rfl, if_pos rfl, if_pos hv]; rfl
    · rw [if_neg e, if_neg e, List.getD_eq_getElem?_getD]
  have up : ∀ x, prc p x ≤ prc (p.set v (prc p u + wgt hi g)) x := fun x => by
    rw [get]
    split
    · rename_i e; rw [← e]; omega
    · exact Int.le_refl _
  have low' : ∀ x y h1, (c.set v (some (u, g)))[x]? = some (some (y, h1)) → prc (p.set v (prc p u + wgt hi g)) x ≤ prc (p.set v (prc p u + wgt hi g)) y + wgt hi h1 := fun x y h1 e => by
    have b := up y
    rcases came_set e with ⟨ne, e2⟩ | ⟨e1, e2⟩
    · have a := h.low _ _ _ e2
      have : prc (p.set v (prc p u + wgt hi g)) x = prc p x := by rw [get, if_neg fun z => ne z.symm]
      omega
    · have a : prc (p.set v (prc p u + wgt hi g)) x = prc p u + wgt hi g := by rw [get, if_pos e1.symm]
      obtain ⟨e3, e4⟩ := Prod.mk.inj (Option.some.inj e2)
      rw [← e3, ← e4, a]
      have := up u
      omega
  -- a way round from the new node on
  have mulA : ∀ s r : Int, hi.2 * (s + r) = hi.2 * s + hi.2 * r := fun s r => Int.mul_add _ _ _
  have mulN : ∀ n m : Nat, ((n + m : Nat) : Int) * hi.1 = (n : Nat) * hi.1 + (m : Nat) * hi.1 := fun n m => by rw [Int.natCast_add, Int.add_mul]
  have one : ((1 : Nat) : Int) * hi.1 = hi.1 := Int.one_mul _
  have gv : ∀ x h1, (c.set v (some (u, g)))[v]? = some (some (x, h1)) → x = u ∧ h1 = g := fun x h1 e => by
    rcases came_set e with ⟨ne, _⟩ | ⟨_, e2⟩
    · exact absurd rfl ne
    · cases e2; exact ⟨rfl, rfl⟩
  have round : ∀ N n s, n ≤ N → Pth (c.set v (some (u, g))) v v s n → 0 < hi.2 * s - (n : Nat) * hi.1 := by
    intro N
    induction N with
    | zero => intro n s hn k; have := k.pos; omega
    | succ N ih =>
      intro n s hn k
      cases k with
      | one e =>
        obtain ⟨rfl, rfl⟩ := gv _ _ e
        unfold wgt at hm
        rw [one]; omega
      | @cons _ z _ h1 s n e k =>
        obtain ⟨rfl, rfl⟩ := gv _ _ e
        have m1 := mulA h1 s
        have m2 := mulN n 1
        rw [m1, m2, one]
        unfold wgt at hm
        rcases pth_new k with k | rfl | ⟨s1, n1, k1, _, s2, n2, k2, rfl, rfl⟩
        · have := CameOk.path h.low k
          omega
        · have := ih n s (by omega) k
          omega
        · have a := CameOk.path h.low k1
          have b := ih n2 s2 (by have := k1.pos; omega) k2
          have m3 := mulA s1 s2
          have m4 := mulN n1 n2
          rw [m3, m4]
          omega
  refine ⟨low', fun x s n k => ?_⟩
  rcases pth_new k with k | rfl | ⟨s1, n1, k1, k1n, s2, n2, k2, rfl, rfl⟩
  · exact h.cyc x s n k
  · exact round n n s (Nat.le_refl _) k
  · -- turned, so that it starts at the new node
    have k1' : Pth (c.set v (some (u, g))) v v (s2 + s1) (n2 + n1) := k2.app k1n
    have := round _ _ _ (Nat.le_refl _) k1'
    have m1 := mulA s1 s2
    have m2 := mulA s2 s1
    have m3 := mulN n1 n2
    have m4 := mulN n2 n1
    rw [m1, m3]
    rw [m2, m4] at this
    omega
end Sg
set_option Elab.async false
set_option linter.all false
set_option maxRecDepth 100000
set_option maxHeartbeats 4000000
namespace Sg
/-! ## graphs with gains, and how the prices are raised -/
abbrev Edge := Int × Int × Nat
abbrev Gr := List (List Edge)
abbrev PriS := List Int × Came × Bool
def excE (hi : Int × Int) (p : List Int) (node : Nat) (e : Edge) : Int := hi.2 * e.2.1 - hi.1 - (prc p e.2.2 - prc p node)
def raiseE (hi : Int × Int) (node : Nat) (s : PriS) (e : Edge) : PriS :=
  if 0 < excE hi s.1 node e then (s.1.set e.2.2 (prc s.1 e.2.2 + excE hi s.1 node e), s.2.1.set e.2.2 (some (node, e.2.1)), true) else s
def raiseN (hi : Int × Int) (G : Gr) (s : PriS) (node : Nat) : PriS := (G.getD node []).foldl (raiseE hi node) s
def raiseUp (hi : Int × Int) (G : Gr) (s : PriS) (i : Nat) : PriS := (List.range i).foldl (raiseN hi G) s
structure WfG (G : Gr) : Prop where
  behind : ∀ es ∈ G, ∀ e ∈ es, e.2.2 < G.length
structure PriOk (hi : Int × Int) (G : Gr) (s : PriS) : Prop where
  lp : s.1.length = G.length
  lc : s.2.1.length = G.length
  came : CameOk hi s.1 s.2.1
  edge : ∀ (v u : Nat) (g : Int), s.2.1[v]? = some (some (u, g)) → ∃ (es : List Edge) (l : Int), G[u]? = some es ∧ (l, g, v) ∈ es
  root : ∀ v : Nat, s.2.1[v]? = some none → prc s.1 v = 0
  low : ∀ v, 0 ≤ prc s.1 v
theorem prc_set {p : List Int} {v x : Nat} {z : Int} (hv : v < p.length) : prc (p.set v z) x = if v = x then z else prc p x := by
  unfold prc
  rw [List.getD_eq_getElem?_getD, List.getElem?_set]
  by_cases e : v = x
  · subst e
    rw [if_pos rfl, if_pos rfl, if_pos hv]; rfl
  · rw [if_neg e, if_neg e, List.getD_eq_getElem?_getD]
/-- what a step does: nothing, or the prices rise and this is marked -/
structure Rises (s s' : PriS) : Prop where
  up : ∀ v, prc s.1 v ≤ prc s'.1 v
  mark : s.2.2 = true → s'.2.2 = true
  same : s'.2.2 = false → s' = s
  more : s.2.2 = false → s'.2.2 = true → ∃ v, prc s.1 v < prc s'.1 v
theorem Rises.refl (s : PriS) : Rises s s := ⟨fun _ => Int.le_refl _, fun h => h, fun _ => rfl, fun h1 h2 => by rw [h1] at h2; exact nomatch h2⟩
theorem Rises.trans {s t r : PriS} (a : Rises s t) (b : Rises t r) : Rises s r := by
  refine ⟨fun v => Int.le_trans (a.up v) (b.up v), fun h => b.mark (a.mark h), fun h => ?_, fun h1 h2 => ?_⟩
  · have e := b.same h
    rw [e] at h ⊢
    exact a.same h
  · cases h3 : t.2.2 with
    | true =>
      obtain ⟨v, hv⟩ := a.more h1 h3
      exact ⟨v, Int.lt_of_lt_of_le hv (b.up v)⟩
    | false =>
      obtain ⟨v, hv⟩ := b.more h3 h2
      exact ⟨v, Int.lt_of_le_of_lt (a.up v) hv⟩
theorem raiseE_ok {hi : Int × Int} {G : Gr} (W : WfG G) {s : PriS} (h : PriOk hi G s) {node : Nat} {es : List Edge} (hn : G[node]? = some es) {e : Edge} (he : e ∈ es) : PriOk hi G (raiseE hi node s e) ∧ Rises s (raiseE hi node s e) ∧ ((raiseE hi node s e).2.2 = false → ¬ 0 < excE hi s.1 node e) := by
  unfold raiseE
  by_cases g : 0 < excE hi s.1 node e
  · rw [if_pos g]
    have hb := W.behind es (List.mem_of_getElem? hn) e he
    have hv : e.2.2 < s.1.length := by rw [h.lp]; exact hb
    have hw : excE hi s.1 node e = wgt hi e.2.1 - (prc s.1 e.2.2 - prc s.1 node) := rfl
    have hval : prc s.1 e.2.2 + excE hi s.1 node e = prc s.1 node + wgt hi e.2.1 := by rw [hw]; omega
    have hr := h.came.raise (u := node) (v := e.2.2) (g := e.2.1) hv (by rw [← hw]; exact g)
    rw [← hval] at hr
    refine ⟨⟨by rw [List.length_set]; exact h.lp, by rw [List.length_set]; exact h.lc, hr, fun v u g' e1 => ?_, fun v e1 => ?_, fun v => ?_⟩, ⟨fun v => ?_, fun _ => rfl, (fun z => nomatch z), fun _ _ => ⟨e.2.2, ?_⟩⟩, (fun z => nomatch z)⟩
    · rcases came_set e1 with ⟨_, e2⟩ | ⟨e2, e3⟩
      · exact h.edge v u g' e2
      · obtain ⟨rfl, rfl⟩ := Prod.mk.inj (Option.some.inj e3)
        rw [e2]
        exact ⟨es, e.1, hn, he⟩
    · have e1 : (s.2.1.set e.2.2 (some (node, e.2.1)))[v]? = some none := e1
      rw [List.getElem?_set] at e1
      by_cases z : e.2.2 = v
      · rw [if_pos z] at e1
        split at e1
        · exact nomatch Option.some.inj e1
        · exact nomatch e1
      · rw [if_neg z] at e1
        show prc (s.1.set e.2.2 _) v = 0
        rw [prc_set hv, if_neg z]
        exact h.root v e1
    · show 0 ≤ prc (s.1.set e.2.2 _) v
      rw [prc_set hv]
      have a := h.low v
      have b := h.low e.2.2
      split <;> omega
    · show prc s.1 v ≤ prc (s.1.set e.2.2 _) v
      rw [prc_set hv]
      split
      · rename_i z; rw [← z]; omega
      · exact Int.le_refl _
    · show prc s.1 e.2.2 < prc (s.1.set e.2.2 _) e.2.2
      rw [prc_set hv, if_pos rfl]
      omega
  · rw [if_neg g]
    exact ⟨h, .refl s, fun _ => g⟩
theorem raiseN_ok {hi : Int × Int} {G : Gr} (W : WfG G) {node : Nat} {es : List Edge} (hn : G[node]? = some es) : ∀ (fs : List Edge) {s : PriS}, (∀ e ∈ fs, e ∈ es) → PriOk hi G s →
    PriOk hi G (fs.foldl (raiseE hi node) s) ∧ Rises s (fs.foldl (raiseE hi node) s) ∧ ((fs.foldl (raiseE hi node) s).2.2 = false → ∀ e ∈ fs, ¬ 0 < excE hi s.1 node e)
  | [], s, _, h => ⟨h, .refl s, fun _ e he => nomatch he⟩
  | f :: fs, s, hf, h => by
    obtain ⟨a1, a2, a3⟩ := raiseE_ok W h hn (hf f List.mem_cons_self)
    obtain ⟨b1, b2, b3⟩ := raiseN_ok W hn fs (fun e he => hf e (List.mem_cons_of_mem _ he)) a1
    refine ⟨b1, a2.trans b2, fun hr e he => ?_⟩
    have e1 := b2.same hr
    have hr1 : (raiseE hi node s f).2.2 = false := by rw [← e1]; exact hr
    have e2 := a2.same hr1
    rcases List.mem_cons.mp he with rfl | he
    · exact a3 hr1
    · have := b3 hr e he
      rw [e2] at this
      exact this
theorem raiseUp_ok {hi : Int × Int} {G : Gr} (W : WfG G) {s : PriS} (h : PriOk hi G s) : ∀ i, i ≤ G.length → PriOk hi G (raiseUp hi G s i) ∧ Rises s (raiseUp hi G s i) ∧ ((raiseUp hi G s i).2.2 = false → ∀ node es, node < i → G[node]? = some es → ∀ e ∈ es, ¬ 0 < excE hi s.1 node e)
  | 0, _ => ⟨h, .refl s, fun _ node es hn => absurd hn (Nat.not_lt_zero _)⟩
  | i + 1, hi' => by
    obtain ⟨a1, a2, a3⟩ := raiseUp_ok W h i (by omega)
    have hG : G[i]? = some G[i] := List.getElem?_eq_getElem (by omega)
    have hgd : G.getD i [] = G[i] := by rw [List.getD_eq_getElem?_getD, hG]; rfl
    have e0 : raiseUp hi G s (i + 1) = (G[i]).foldl (raiseE hi i) (raiseUp hi G s i) := by
      unfold raiseUp
      rw [List.range_succ, List.foldl_append]
      show raiseN hi G _ i = _
      unfold raiseN
      rw [hgd]
    obtain ⟨b1, b2, b3⟩ := raiseN_ok W hG G[i] (fun e he => he) a1
    rw [← e0] at b1 b2 b3
    refine ⟨b1, a2.trans b2, fun hr node es hn hes e he => ?_⟩
    have e1 := b2.same hr
    have hr1 : (raiseUp hi G s i).2.2 = false := by rw [← e1]; exact hr
    have e2 := a2.same hr1
    by_cases z : node < i
    · exact a3 hr1 node es z hes e he
    · have z : node = i := by omega
      subst z
      rw [hG] at hes
      obtain rfl := Option.some.inj hes
      have := b3 hr e he
      rw [e2] at this
      exact this
/-! ## a certificate: prices that no edge exceeds -/
/-- a walk in the graph: gains and steps -/
inductive Wlk (G : Gr) : Nat → Nat → Int → Nat → Prop
  | nil {v : Nat} : Wlk G v v 0 0
  | cons {v x : Nat} {es : List Edge} {e : Edge} {s : Int} {n : Nat} : G[v]? = some es → e ∈ es → Wlk G e.2.2 x s n → Wlk G v x (e.2.1 + s) (n + 1)
def Cert (hi : Int × Int) (G : Gr) (p : List Int) : Prop := ∀ node es, G[node]? = some es → ∀ e ∈ es, ¬ 0 < excE hi p node e
theorem Cert.walk {hi : Int × Int} {G : Gr} {p : List Int} (h : Cert hi G p) {v x : Nat} {s : Int} {n : Nat} (k : Wlk G v x s n) : hi.2 * s - (n : Nat) * hi.1 ≤ prc p x - prc p v := by
  induction k with
  | nil => rw [Int.mul_zero]; show 0 - ((0 : Nat) : Int) * hi.1 ≤ _; rw [Int.natCast_zero, Int.zero_mul]; omega
  | @cons v x es e s n hv he _ ih =>
    have a := h v es hv e he
    unfold excE at a
    have m1 : hi.2 * (e.2.1 + s) = hi.2 * e.2.1 + hi.2 * s := Int.mul_add _ _ _
    have m2 : ((n + 1 : Nat) : Int) * hi.1 = (n : Nat) * hi.1 + hi.1 := by rw [Int.natCast_succ, Int.add_mul, Int.one_mul]
    rw [m1, m2]
    omega
/-- no cycle has a greater mean -/
theorem Cert.cycle {hi : Int × Int} {G : Gr} {p : List Int} (h : Cert hi G p) {v : Nat} {s : Int} {n : Nat} (k : Wlk G v v s n) : hi.2 * s ≤ (n : Nat) * hi.1 := by
  have := h.walk k
  omega
/-- what raised the prices, turned round, is a walk of the graph -/
theorem Wlk.snoc {G : Gr} {v x : Nat} {s : Int} {n : Nat} (k : Wlk G v x s n) {es : List Edge} {e : Edge} (hx : G[x]? = some es) (he : e ∈ es) : Wlk G v e.2.2 (s + e.2.1) (n + 1) := by
  induction k with
  | nil => have := Wlk.cons hx he (.nil (v := e.2.2)); rw [Int.add_zero] at this; rw [Int.zero_add]; exact this
  | cons hv hf _ ih =>
    have := Wlk.cons hv hf (ih hx)
    rw [Int.add_assoc]
    exact this
theorem pth_walk {G : Gr} {c : Came} (h : ∀ (v u : Nat) (g : Int), c[v]? = some (some (u, g)) → ∃ (es : List Edge) (l : Int), G[u]? = some es ∧ (l, g, v) ∈ es) {v x : Nat} {s : Int} {n : Nat} (k : Pth c v x s n) : Wlk G x v s n := by
  induction k with
  | one e =>
    obtain ⟨es, l, h1, h2⟩ := h _ _ _ e
    have := Wlk.cons h1 h2 .nil
    rw [Int.add_zero] at this
    exact this
  | @cons v u x g s n e _ ih =>
    obtain ⟨es, l, h1, h2⟩ := h _ _ _ e
    have := ih.snoc h1 h2
    rw [Int.add_comm]
    exact this
end Sg
set_option Elab.async false
set_option linter.all false
set_option maxRecDepth 100000
set_option maxHeartbeats 4000000
namespace Sg
/-! ## without a cycle the prices stay low -/
def nxtC (c : Came) (v : Nat) : Nat := match c[v]? with
  | some (some (u, _)) => u
  | _ => v
def seqC (c : Came) (v : Nat) : Nat → Nat
  | 0 => v
  | i + 1 => nxtC c (seqC c v i)
theorem nxtC_eq {c : Came} {v u : Nat} {g : Int} (h : c[v]? = some (some (u, g))) : nxtC c v = u := by unfold nxtC; rw [h]
theorem seq_pth {c : Came} {v : Nat} {m : Nat} (h : ∀ i, i < m → ∃ u g, c[seqC c v i]? = some (some (u, g))) (i : Nat) : ∀ d, i + d + 1 ≤ m → ∃ s, Pth c (seqC c v i) (seqC c v (i + d + 1)) s (d + 1)
  | 0, hd => by
    obtain ⟨u, g, e⟩ := h i (by omega)
    refine ⟨g, ?_⟩
    show Pth c (seqC c v i) (nxtC c (seqC c v i)) g 1
    rw [nxtC_eq e]
    exact .one e
  | d + 1, hd => by
    obtain ⟨s, k⟩ := seq_pth h i d (by omega)
    obtain ⟨u, g, e⟩ := h (i + d + 1) (by omega)
    refine ⟨s + g, ?_⟩
    have : seqC c v (i + (d + 1) + 1) = u := nxtC_eq e
    rw [this]
    exact k.app (.one e)
theorem dup_of : ∀ (n : Nat) (f : Nat → Nat), (∀ i, i ≤ n → f i < n) → ∃ i j, i < j ∧ j ≤ n ∧ f i = f j := by
  intro n f hf
  refine Classical.byContradiction fun hc => ?_
  have nd : ((List.range (n + 1)).map f).Nodup := by
    rw [List.nodup_iff_pairwise_ne, List.pairwise_map]
    have hr : (List.range (n + 1)).Pairwise fun a b => a < b ∧ b ≤ n := by
      rw [List.pairwise_iff_getElem]
      intro i j hi hj hij
      rw [List.getElem_range, List.getElem_range]
      rw [List.length_range] at hj
      exact ⟨hij, by omega⟩
    exact hr.imp fun {a b} h e => hc ⟨a, b, h.1, h.2, e⟩
  have := nodup_len_le ((List.range (n + 1)).map f) (List.range n) nd fun x hx => by
    obtain ⟨i, hi, rfl⟩ := List.mem_map.mp hx
    exact List.mem_range.mpr (hf i (Nat.le_of_lt_succ (List.mem_range.mp hi)))
  rw [List.length_map, List.length_range, List.length_range] at this
  omega
theorem low_price {hi : Int × Int} {G : Gr} {s : PriS} (h : PriOk hi G s) (ac : ∀ v r n, ¬ Pth s.2.1 v v r n) {M : Int} (M0 : 0 ≤ M) (hM : ∀ es ∈ G, ∀ e ∈ es, wgt hi e.2.1 ≤ M) {v : Nat} (hv : v < G.length) : prc s.1 v ≤ (G.length : Nat) * M := by
  have lt : ∀ i, (∀ j, j < i → ∃ u g, s.2.1[seqC s.2.1 v j]? = some (some (u, g))) → seqC s.2.1 v i < G.length := by
    intro i
    cases i with
    | zero => intro _; exact hv
    | succ i =>
      intro hj
      obtain ⟨u, g, e⟩ := hj i (Nat.lt_succ_self i)
      show nxtC s.2.1 (seqC s.2.1 v i) < _
      rw [nxtC_eq e]
      obtain ⟨es, l, hes, _⟩ := h.edge _ _ _ e
      exact (List.getElem?_eq_some_iff.mp hes).1
  -- the first node that nothing raised
  have root : ∃ m, m ≤ G.length ∧ (∀ j, j < m → ∃ u g, s.2.1[seqC s.2.1 v j]? = some (some (u, g))) ∧ s.2.1[seqC s.2.1 v m]? = some none := by
    refine Classical.byContradiction fun hc => ?_
    have all : ∀ m, m ≤ G.length + 1 → ∀ j, j < m → ∃ u g, s.2.1[seqC s.2.1 v j]? = some (some (u, g)) := by
      intro m
      induction m with
      | zero => intro _ j hj; exact absurd hj (Nat.not_lt_zero _)
      | succ m ih =>
        intro hm j hj
        by_cases z : j < m
        · exact ih (by omega) j z
        · obtain rfl : j = m := by omega
          have hl := lt j (ih (by omega))
          have : s.2.1[seqC s.2.1 v j]? = some (s.2.1[seqC s.2.1 v j]'(by rw [h.lc]; exact hl)) := List.getElem?_eq_getElem _
          cases hx : s.2.1[seqC s.2.1 v j]'(by rw [h.lc]; exact hl) with
          | none => rw [hx] at this; exact absurd ⟨j, by omega, ih (by omega), this⟩ hc
          | some y => rw [hx] at this; exact ⟨y.1, y.2, this⟩
    have al := all (G.length + 1) (Nat.le_refl _)
    obtain ⟨i, j, hij, hj, e⟩ := dup_of G.length (seqC s.2.1 v) fun i hi => lt i fun j hj => al j (by omega)
    obtain ⟨r, k⟩ := seq_pth al i (j - i - 1) (by omega)
    rw [show i + (j - i - 1) + 1 = j from by omega, ← e] at k
    exact ac _ _ _ k
  obtain ⟨m, hm, hs, hr⟩ := root
  have step : ∀ d, d ≤ m → prc s.1 (seqC s.2.1 v (m - d)) ≤ (d : Nat) * M := by
    intro d
    induction d with
    | zero =>
      intro _
      rw [Nat.sub_zero, h.root _ hr]
      show (0 : Int) ≤ ((0 : Nat) : Int) * M
      rw [Int.natCast_zero, Int.zero_mul]; exact Int.le_refl _
    | succ d ih =>
      intro hd
      have a := ih (by omega)
      obtain ⟨u, g, e⟩ := hs (m - (d + 1)) (by omega)
      have b := h.came.low _ _ _ e
      have e2 : seqC s.2.1 v (m - d) = u := by
        rw [show m - d = m - (d + 1) + 1 from by omega]
        exact nxtC_eq e
      rw [e2] at a
      obtain ⟨es, l, hes, he⟩ := h.edge _ _ _ e
      have c := hM es (List.mem_of_getElem? hes) _ he
      have m1 : ((d + 1 : Nat) : Int) * M = (d : Nat) * M + M := by rw [Int.natCast_succ, Int.add_mul, Int.one_mul]
      rw [m1]
      have c : wgt hi g ≤ M := c
      omega
  have := step m (Nat.le_refl _)
  rw [Nat.sub_self] at this
  have h2 : ((m : Nat) : Int) * M ≤ (G.length : Nat) * M := Int.mul_le_mul_of_nonneg_right (by omega) M0
  exact Int.le_trans this h2
end Sg
set_option Elab.async false
set_option linter.all false
set_option maxRecDepth 100000
set_option maxHeartbeats 4000000
namespace Sg
/-! ## measures: of the prices, of the means -/
theorem sum_up : ∀ (p q : List Int), p.length = q.length → (∀ v, prc p v ≤ prc q v) → p.sum ≤ q.sum ∧ ((∃ v, prc p v < prc q v) → p.sum < q.sum)
  | [], [], _, _ => ⟨Int.le_refl _, fun ⟨v, h⟩ => absurd h (Int.lt_irrefl _)⟩
  | [], _ :: _, h, _ => nomatch h
  | _ :: _, [], h, _ => nomatch h
  | x :: p, y :: q, hl, h => by
    obtain ⟨a, b⟩ := sum_up p q (Nat.succ.inj hl) fun v => h (v + 1)
    have c : x ≤ y := h 0
    rw [List.sum_cons, List.sum_cons]
    refine ⟨by omega, fun ⟨v, hv⟩ => ?_⟩
    cases v with
    | zero =>
      have hv : x < y := hv
      omega
    | succ v =>
      have := b ⟨v, hv⟩
      omega
theorem sum_most : ∀ (p : List Int) (B : Int), (∀ v, v < p.length → prc p v ≤ B) → p.sum ≤ (p.length : Nat) * B
  | [], B, _ => by rw [List.sum_nil]; show (0 : Int) ≤ ((0 : Nat) : Int) * B; rw [Int.natCast_zero, Int.zero_mul]; exact Int.le_refl _
  | x :: p, B, h => by
    have a := sum_most p B fun v hv => h (v + 1) (Nat.succ_lt_succ hv)
    have b : x ≤ B := h 0 (Nat.succ_pos _)
    have m1 : ((p.length + 1 : Nat) : Int) * B = (p.length : Nat) * B + B := by rw [Int.natCast_succ, Int.add_mul, Int.one_mul]
    rw [List.sum_cons, List.length_cons, m1]
    omega
/-- how far the prices may still rise -/
def roomP (G : Gr) (M : Int) (p : List Int) : Nat := ((G.length : Nat) * ((G.length : Nat) * M) - p.sum).toNat
/-- a pass that raises makes the room less -/
theorem room_less {hi : Int × Int} {G : Gr} (W : WfG G) {s : PriS} (h : PriOk hi G s) (hf : s.2.2 = false) {M : Int} (M0 : 0 ≤ M) (hM : ∀ es ∈ G, ∀ e ∈ es, wgt hi e.2.1 ≤ M)
    (hr : (raiseUp hi G s G.length).2.2 = true) (ac : ∀ v r n, ¬ Pth (raiseUp hi G s G.length).2.1 v v r n) : roomP G M (raiseUp hi G s G.length).1 < roomP G M s.1 := by
  obtain ⟨a1, a2, _⟩ := raiseUp_ok W h G.length (Nat.le_refl _)
  have hs := sum_up s.1 (raiseUp hi G s G.length).1 (by rw [h.lp, a1.lp]) a2.up
  have hlt := hs.2 (a2.more hf hr)
  have hb := sum_most (raiseUp hi G s G.length).1 ((G.length : Nat) * M) fun v hv => low_price a1 ac M0 hM (by rw [← a1.lp]; exact hv)
  rw [a1.lp] at hb
  unfold roomP
  omega
/-- a pass that raises nothing leaves prices that no edge exceeds -/
theorem pass_cert {hi : Int × Int} {G : Gr} (W : WfG G) {s : PriS} (h : PriOk hi G s) (hr : (raiseUp hi G s G.length).2.2 = false) : raiseUp hi G s G.length = s ∧ Cert hi G s.1 := by
  obtain ⟨_, a2, a3⟩ := raiseUp_ok W h G.length (Nat.le_refl _)
  exact ⟨a2.same hr, fun node es hes e he => a3 hr node es (List.getElem?_eq_some_iff.mp hes).1 hes e he⟩
theorem start_ok (hi : Int × Int) (G : Gr) : PriOk hi G (List.replicate G.length 0, List.replicate G.length none, false) := by
  have hc : ∀ (v u : Nat) (g : Int), (List.replicate G.length (none : Option (Nat × Int)))[v]? ≠ some (some (u, g)) := fun v u g h => by
    have := List.eq_of_mem_replicate (List.mem_of_getElem? h)
    exact nomatch this
  have hp : ∀ v, prc (List.replicate G.length (0 : Int)) v = 0 := fun v => by
    unfold prc
    rw [List.getD_eq_getElem?_getD, List.getElem?_replicate]
    split <;> rfl
  refine ⟨List.length_replicate, List.length_replicate, ⟨fun v u g h => absurd h (hc v u g), fun v s n k => ?_⟩, fun v u g h => absurd h (hc v u g), fun v _ => hp v, fun v => by rw [hp]; exact Int.le_refl _⟩
  cases k with
  | one e => exact absurd e (hc _ _ _)
  | cons e _ => exact absurd e (hc _ _ _)
/-- means that a cycle of a graph may have, above one -/
def meansUp (N T : Nat) (hi : Int × Int) : List (Nat × Nat) := ((List.range (N + 1)).flatMap fun n => (List.range (T + 1)).map fun t => (n, t)).filter fun x => decide (hi.1 * (x.1 : Nat) < (x.2 : Nat) * hi.2)
theorem filter_less {α : Type} {f g : α → Bool} (l : List α) (h : ∀ x ∈ l, g x = true → f x = true) {y : α} (hy : y ∈ l) (hf : f y = true) (hg : g y = false) : (l.filter g).length < (l.filter f).length := by
  induction l with
  | nil => exact nomatch hy
  | cons a l ih =>
    have le : ∀ l : List α, (∀ x ∈ l, g x = true → f x = true) → (l.filter g).length ≤ (l.filter f).length := by
      intro l
      induction l with
      | nil => intro _; exact Nat.le_refl _
      | cons b l ih =>
        intro h
        have i := ih fun x hx => h x (List.mem_cons_of_mem _ hx)
        rw [List.filter_cons, List.filter_cons]
        by_cases z : g b = true
        · rw [if_pos z, if_pos (h b List.mem_cons_self z)]; exact Nat.succ_le_succ i
        · rw [if_neg z]
          split
          · exact Nat.le_succ_of_le i
          · exact i
    rw [List.filter_cons, List.filter_cons]
    rcases List.mem_cons.mp hy with rfl | hy
    · rw [if_pos hf, if_neg (by rw [hg]; decide)]
      exact Nat.lt_succ_of_le (le l fun x hx => h x (List.mem_cons_of_mem _ hx))
    · have i := ih (fun x hx => h x (List.mem_cons_of_mem _ hx)) hy
      by_cases z : g a = true
      · rw [if_pos z, if_pos (h a List.mem_cons_self z)]; exact Nat.succ_lt_succ i
      · rw [if_neg z]
        split
        · exact Nat.lt_succ_of_lt i
        · exact i
/-- a greater mean leaves fewer above it -/
theorem means_less {N T n t : Nat} {hi lo : Int × Int} (h1 : 1 ≤ n) (hn : n ≤ N) (ht : t ≤ T) (b1 : 0 < hi.2) (b2 : 0 < lo.2) (he : hi.2 * (t : Nat) = hi.1 * (n : Nat)) (hl : lo.1 * (n : Nat) < (t : Nat) * lo.2) : (meansUp N T hi).length < (meansUp N T lo).length := by
  unfold meansUp
  refine filter_less _ (fun x _ hx => ?_) (y := (n, t)) (List.mem_flatMap.mpr ⟨n, List.mem_range.mpr (Nat.lt_succ_of_le hn), List.mem_map.mpr ⟨t, List.mem_range.mpr (Nat.lt_succ_of_le ht), rfl⟩⟩) (decide_eq_true hl) (decide_eq_false ?_)
  · have hx := of_decide_eq_true hx
    refine decide_eq_true ?_
    -- lo < t / n = hi < x
    by_cases x0 : x.1 = 0
    · rw [x0] at hx ⊢
      rw [Int.natCast_zero, Int.mul_zero] at hx ⊢
      have : 0 < ((x.2 : Nat) : Int) := Int.pos_of_mul_pos_left hx b1 |> fun h => h
      exact Int.mul_pos this b2
    · have x1 : 0 < ((x.1 : Nat) : Int) := by omega
      have n1 : 0 < ((n : Nat) : Int) := by omega
      have a := Int.mul_lt_mul_of_pos_right hl (Int.mul_pos b1 x1)
      have b := Int.mul_lt_mul_of_pos_right hx (Int.mul_pos n1 b2)
      have e1 : ((t : Nat) : Int) * lo.2 * (hi.2 * ((x.1 : Nat) : Int)) = hi.1 * ((x.1 : Nat) : Int) * (((n : Nat) : Int) * lo.2) := by
        have : ((t : Nat) : Int) * lo.2 * (hi.2 * ((x.1 : Nat) : Int)) = (hi.2 * ((t : Nat) : Int)) * (lo.2 * ((x.1 : Nat) : Int)) := by ac_rfl
        rw [this, he]; ac_rfl
      rw [e1] at a
      have c := Int.lt_trans a b
      have e2 : lo.1 * ((n : Nat) : Int) * (hi.2 * ((x.1 : Nat) : Int)) = lo.1 * ((x.1 : Nat) : Int) * (((n : Nat) : Int) * hi.2) := by ac_rfl
      have e3 : ((x.2 : Nat) : Int) * hi.2 * (((n : Nat) : Int) * lo.2) = ((x.2 : Nat) : Int) * lo.2 * (((n : Nat) : Int) * hi.2) := by ac_rfl
      rw [e2, e3] at c
      exact Int.lt_of_mul_lt_mul_right c (Int.le_of_lt (Int.mul_pos n1 b1))
  · show ¬ hi.1 * ((n : Nat) : Int) < ((t : Nat) : Int) * hi.2
    rw [← he, Int.mul_comm]
    exact Int.lt_irrefl _
end Sg
set_option Elab.async false
set_option linter.all false
set_option maxRecDepth 100000
set_option maxHeartbeats 4000000
namespace Sg
/-! ## nodes whose way ends -/
def OnC (c : Came) (v : Nat) : Prop := ∃ u g, c[v]? = some (some (u, g))
def GoodV (c : Came) (v : Nat) : Prop := ∃ m, (∀ i, i < m → OnC c (seqC c v i)) ∧ c[seqC c v m]? = some none
theorem seq_add (c : Came) (v n : Nat) : ∀ i, seqC c v (n + i) = seqC c (seqC c v n) i
  | 0 => rfl
  | i + 1 => by
    show nxtC c (seqC c v (n + i)) = nxtC c (seqC c (seqC c v n) i)
    rw [seq_add c v n i]
theorem pth_seq {c : Came} {v x : Nat} {s : Int} {n : Nat} (k : Pth c v x s n) : seqC c v n = x ∧ ∀ i, i < n → OnC c (seqC c v i) := by
  induction k with
  | @one v u g e => exact ⟨nxtC_eq e, fun i hi => by obtain rfl : i = 0 := by omega
                                                     exact ⟨_, _, e⟩⟩
  | @cons v u x g s n e _ ih =>
    have h1 : ∀ i, seqC c v (i + 1) = seqC c u i := fun i => by
      rw [Nat.add_comm, seq_add c v 1 i]
      show seqC c (nxtC c v) i = _
      rw [nxtC_eq e]
    refine ⟨by rw [h1]; exact ih.1, fun i hi => ?_⟩
    cases i with
    | zero => exact ⟨_, _, e⟩
    | succ i => rw [h1]; exact ih.2 i (by omega)
theorem good_free {c : Came} {v : Nat} (h : GoodV c v) (s : Int) (n : Nat) : ¬ Pth c v v s n := fun k => by
  obtain ⟨m, _, hm⟩ := h
  obtain ⟨e, on⟩ := pth_seq k
  have n1 := k.pos
  have all : ∀ N i, i ≤ N → OnC c (seqC c v i) := by
    intro N
    induction N with
    | zero => intro i hi; exact on i (by omega)
    | succ N ih =>
      intro i hi
      by_cases z : i < n
      · exact on i z
      · have : seqC c v i = seqC c v (i - n) := by
          have := seq_add c v n (i - n)
          rw [show n + (i - n) = i from by omega, e] at this
          exact this
        rw [this]
        exact ih (i - n) (by omega)
  obtain ⟨u, g, hu⟩ := all m m (Nat.le_refl _)
  rw [hm] at hu
  exact nomatch (Option.some.inj hu)
theorem good_back {c : Came} {v m : Nat} (h : ∀ i, i < m → OnC c (seqC c v i)) (g : GoodV c (seqC c v m)) : ∀ i, i ≤ m → GoodV c (seqC c v i) := fun i hi => by
  obtain ⟨r, h1, h2⟩ := g
  refine ⟨m - i + r, fun j hj => ?_, ?_⟩
  · rw [← seq_add]
    by_cases z : i + j < m
    · exact h _ z
    · have := h1 (i + j - m) (by omega)
      rw [← seq_add, show m + (i + j - m) = i + j from by omega] at this
      exact this
  · rw [← seq_add, show i + (m - i + r) = m + r from by omega, seq_add]
    exact h2
theorem good_root {c : Came} {v : Nat} (h : c[v]? = some none) : GoodV c v := ⟨0, fun i hi => absurd hi (Nat.not_lt_zero i), h⟩
/-- a way that comes back to a node of it: the node is on a cycle, with a first return -/
theorem back_cycle {c : Came} {v j i : Nat} (h : ∀ k, k < i → OnC c (seqC c v k)) (hj : j < i) (e : seqC c v i = seqC c v j) : ∃ m, 1 ≤ m ∧ m ≤ i - j ∧ (∀ k, k < m → OnC c (seqC c (seqC c v i) k)) ∧ seqC c (seqC c v i) m = seqC c v i ∧ ∀ k, 1 ≤ k → k < m → seqC c (seqC c v i) k ≠ seqC c v i := by
  have back : seqC c (seqC c v i) (i - j) = seqC c v i := by
    rw [e, ← seq_add, show j + (i - j) = i from by omega, e]
  have on : ∀ k, k < i - j → OnC c (seqC c (seqC c v i) k) := fun k hk => by
    rw [e, ← seq_add]; exact h _ (by omega)
  -- the first return
  have key : ∀ N, N ≤ i - j → (∃ m, 1 ≤ m ∧ m ≤ N ∧ seqC c (seqC c v i) m = seqC c v i ∧ ∀ k, 1 ≤ k → k < m → seqC c (seqC c v i) k ≠ seqC c v i) ∨ ∀ k, 1 ≤ k → k ≤ N → seqC c (seqC c v i) k ≠ seqC c v i := by
    intro N
    induction N with
    | zero => intro _; exact .inr fun k h1 h2 => absurd h1 (by omega)
    | succ N ih =>
      intro hN
      rcases ih (by omega) with ⟨m, a, b, d⟩ | h0
      · exact .inl ⟨m, a, by omega, d⟩
      · by_cases z : seqC c (seqC c v i) (N + 1) = seqC c v i
        · exact .inl ⟨N + 1, by omega, Nat.le_refl _, z, fun k h1 h2 => h0 k h1 (by omega)⟩
        · refine .inr fun k h1 h2 => ?_
          by_cases y : k = N + 1
          · rw [y]; exact z
          · exact h0 k h1 (by omega)
  rcases key (i - j) (Nat.le_refl _) with ⟨m, a, b, d, f⟩ | h0
  · exact ⟨m, a, b, fun k hk => on k (by omega), d, f⟩
  · exact absurd back (h0 (i - j) (by omega) (Nat.le_refl _))
end Sg
set_option Elab.async false
set_option linter.all false
set_option maxRecDepth 100000
set_option maxHeartbeats 4000000
namespace Sg
/-! ## walks by their labels, distances, smallest walks -/
inductive WkL (G : Gr) : Nat → Nat → List Int → Prop
  | nil {v : Nat} : WkL G v v []
  | cons {v x : Nat} {es : List Edge} {e : Edge} {ls : List Int} : G[v]? = some es → e ∈ es → WkL G e.2.2 x ls → WkL G v x (e.1 :: ls)
theorem WkL.app {G : Gr} {v x y : Nat} {ls rs : List Int} (h : WkL G v x ls) (k : WkL G x y rs) : WkL G v y (ls ++ rs) := by
  induction h with
  | nil => exact k
  | cons hv he _ ih => exact .cons hv he (ih k)
theorem WkL.split {G : Gr} {v x : Nat} {ls : List Int} (h : WkL G v x ls) : ∀ i, ∃ y, WkL G v y (ls.take i) ∧ WkL G y x (ls.drop i) := by
  induction h with
  | nil => intro i; rw [List.take_nil, List.drop_nil]; exact ⟨_, .nil, .nil⟩
  | @cons v x es e ls hv he hk ih =>
    intro i
    cases i with
    | zero => exact ⟨v, .nil, .cons hv he hk⟩
    | succ i =>
      obtain ⟨y, a, b⟩ := ih i
      exact ⟨y, .cons hv he a, b⟩
theorem WkL.lt {G : Gr} (W : WfG G) {v x : Nat} {ls : List Int} (h : WkL G v x ls) (hv : v < G.length) : x < G.length := by
  induction h with
  | nil => exact hv
  | cons a b _ ih => exact ih (W.behind _ (List.mem_of_getElem? a) _ b)
theorem WkL.wlk {G : Gr} {gn : Int → Int} (hg : ∀ es ∈ G, ∀ e ∈ es, e.2.1 = gn e.1) {v x : Nat} {ls : List Int} (h : WkL G v x ls) : Wlk G v x (ls.map gn).sum ls.length := by
  induction h with
  | nil => exact .nil
  | @cons v x es e ls hv he _ ih =>
    have := Wlk.cons hv he ih
    rw [hg es (List.mem_of_getElem? hv) e he] at this
    exact this
theorem wlk_l {G : Gr} {gn : Int → Int} (hg : ∀ es ∈ G, ∀ e ∈ es, e.2.1 = gn e.1) {v x : Nat} {s : Int} {n : Nat} (h : Wlk G v x s n) : ∃ ls, WkL G v x ls ∧ s = (ls.map gn).sum ∧ n = ls.length := by
  induction h with
  | nil => exact ⟨[], .nil, rfl, rfl⟩
  | @cons v x es e s n hv he _ ih =>
    obtain ⟨ls, h1, h2, h3⟩ := ih
    exact ⟨e.1 :: ls, .cons hv he h1, by rw [h2, hg es (List.mem_of_getElem? hv) e he]; rfl, by rw [h3]; rfl⟩
/-- the least number of steps from v to a goal -/
def Nrm (G : Gr) (goal v d : Nat) : Prop := (∃ ls, WkL G v goal ls ∧ ls.length = d) ∧ ∀ ls, WkL G v goal ls → d ≤ ls.length
theorem Nrm.uniq {G : Gr} {goal v d d' : Nat} (h : Nrm G goal v d) (k : Nrm G goal v d') : d = d' := by
  obtain ⟨⟨l1, a1, b1⟩, c1⟩ := h
  obtain ⟨⟨l2, a2, b2⟩, c2⟩ := k
  have := c1 l2 a2
  have := c2 l1 a1
  omega
theorem nrm_of {G : Gr} {goal v : Nat} : ∀ (n : Nat) {ls : List Int}, WkL G v goal ls → ls.length ≤ n → ∃ d, Nrm G goal v d ∧ d ≤ ls.length
  | 0, ls, h, hn => ⟨ls.length, ⟨⟨ls, h, rfl⟩, fun rs _ => by omega⟩, Nat.le_refl _⟩
  | n + 1, ls, h, hn => by
    by_cases c : ∃ rs, WkL G v goal rs ∧ rs.length < ls.length
    · obtain ⟨rs, h1, h2⟩ := c
      obtain ⟨d, h3, h4⟩ := nrm_of n h1 (by omega)
      exact ⟨d, h3, by omega⟩
    · exact ⟨ls.length, ⟨⟨ls, h, rfl⟩, fun rs hr => Nat.le_of_not_lt fun z => c ⟨rs, hr, z⟩⟩, Nat.le_refl _⟩
theorem nrm_zero {G : Gr} {goal v : Nat} : Nrm G goal v 0 ↔ v = goal := by
  constructor
  · rintro ⟨⟨ls, h, e⟩, _⟩
    obtain rfl := List.eq_nil_of_length_eq_zero e
    cases h; rfl
  · rintro rfl
    exact ⟨⟨[], .nil, rfl⟩, fun _ _ => Nat.zero_le _⟩
/-- one step farther: an edge to a node so near, and not nearer itself -/
theorem nrm_succ {G : Gr} {goal v d : Nat} : Nrm G goal v (d + 1) ↔ (∃ es e, G[v]? = some es ∧ e ∈ es ∧ Nrm G goal e.2.2 d) ∧ ∀ d', d' ≤ d → ¬ Nrm G goal v d' := by
  constructor
  · rintro ⟨⟨ls, h, hl⟩, hm⟩
    refine ⟨?_, fun d' hd k => ?_⟩
    · cases h with
      | nil => exact nomatch hl
      | @cons _ _ es e ls hv he hk =>
        refine ⟨es, e, hv, he, ⟨ls, hk, Nat.succ.inj hl⟩, fun rs hr => ?_⟩
        have := hm _ (.cons hv he hr)
        rw [List.length_cons] at this
        omega
    · obtain ⟨⟨rs, hr, e⟩, _⟩ := k
      have := hm rs hr
      omega
  · rintro ⟨⟨es, e, hv, he, ⟨ls, hk, hl⟩, hm⟩, hn⟩
    refine ⟨⟨_, .cons hv he hk, by rw [List.length_cons, hl]⟩, fun rs hr => Nat.le_of_not_lt fun z => ?_⟩
    obtain ⟨d', h1, h2⟩ := nrm_of _ hr (Nat.le_refl _)
    exact hn d' (by omega) h1
/-- the smallest of the walks as long as it -/
def SmallW (G : Gr) (v goal : Nat) (ls : List Int) : Prop := WkL G v goal ls ∧ ∀ rs, WkL G v goal rs → rs.length = ls.length → lexI rs ls = false
theorem small_nil (G : Gr) (v : Nat) : SmallW G v v [] := ⟨.nil, fun rs _ e => by rw [List.eq_nil_of_length_eq_zero e]; rfl⟩
/-- the labels of each node's edges are unlike -/
def DetG (G : Gr) : Prop := ∀ es ∈ G, ∀ e ∈ es, ∀ f ∈ es, e.1 = f.1 → e = f
theorem small_step {G : Gr} (D : DetG G) {v goal : Nat} {es : List Edge} {e : Edge} {rs : List Int} (hv : G[v]? = some es) (he : e ∈ es) (hs : SmallW G e.2.2 goal rs)
    (hm : ∀ f ∈ es, (∃ ls, WkL G f.2.2 goal ls ∧ ls.length = rs.length) → e.1 ≤ f.1) : SmallW G v goal (e.1 :: rs) := by
  refine ⟨.cons hv he hs.1, fun ls hl hle => ?_⟩
  cases hl with
  | nil => exact nomatch hle
  | @cons _ _ es' f ls hv' hf hk =>
    rw [hv] at hv'
    obtain rfl := Option.some.inj hv'
    have hle2 : ls.length = rs.length := Nat.succ.inj hle
    have h1 := hm f hf ⟨ls, hk, hle2⟩
    show (if f.1 = e.1 then lexI ls rs else decide (f.1 < e.1)) = false
    by_cases z : f.1 = e.1
    · rw [if_pos z]
      obtain rfl := D es (List.mem_of_getElem? hv) f hf e he z
      exact hs.2 ls hk hle2
    · rw [if_neg z]
      exact decide_eq_false (by omega)
/-! ## closed walks -/
/-- a node with a closed walk has one of at most so many steps as there are nodes -/
theorem cyc_short {G : Gr} (W : WfG G) {v : Nat} (hv : v < G.length) : ∀ (n : Nat) {ls : List Int}, WkL G v v ls → ls ≠ [] → ls.length ≤ n → ∃ rs, WkL G v v rs ∧ rs ≠ [] ∧ rs.length ≤ G.length
  | 0, ls, h, h0, hn => absurd (List.eq_nil_of_length_eq_zero (Nat.le_zero.mp hn)) h0
  | n + 1, ls, h, h0, hn => by
    by_cases c : ls.length ≤ G.length
    · exact ⟨ls, h, h0, c⟩
    · have sp := h.split
      have hf : ∀ i, Classical.choose (sp i) < G.length := fun i => (Classical.choose_spec (sp i)).1.lt W hv
      obtain ⟨i, j, hij, hj, e⟩ := dup_of G.length (fun i => Classical.choose (sp i)) fun i _ => hf i
      have a := (Classical.choose_spec (sp i)).1
      have b := (Classical.choose_spec (sp j)).2
      have e : Classical.choose (sp i) = Classical.choose (sp j) := e
      rw [← e] at b
      have hl : (ls.take i ++ ls.drop j).length = ls.length - (j - i) := by
        rw [List.length_append, List.length_take, List.length_drop]
        omega
      refine cyc_short W hv n (a.app b) (fun z => ?_) (by omega)
      have := congrArg List.length z
      rw [hl, List.length_nil] at this
      omega
/-- no shorter walk, none as long that is smaller -/
def slexF (rs ls : List Int) : Prop := ls.length < rs.length ∨ (ls.length = rs.length ∧ lexI rs ls = false)
theorem slexF.refl (ls : List Int) : slexF ls ls := .inr ⟨rfl, by
  induction ls with
  | nil => rfl
  | cons x ls ih => show (if x = x then lexI ls ls else _) = false; rw [if_pos rfl]; exact ih⟩
theorem slexF.trans {a b c : List Int} (h : slexF a b) (k : slexF b c) : slexF a c := by
  rcases h with h | ⟨h, h'⟩
  · rcases k with k | ⟨k, _⟩
    · exact .inl (by omega)
    · exact .inl (by omega)
  · rcases k with k | ⟨k, k'⟩
    · exact .inl (by omega)
    · exact .inr ⟨by omega, lexI_neg _ _ _ h' k'⟩
/-- the shortest of all closed walks, of several the smallest -/
def MinCyc (G : Gr) (ls : List Int) : Prop := (∃ v, v < G.length ∧ WkL G v v ls) ∧ ls ≠ [] ∧ ∀ v rs, v < G.length → WkL G v v rs → rs ≠ [] → slexF rs ls
end Sg
set_option Elab.async false
set_option linter.all false
set_option maxRecDepth 100000
set_option maxHeartbeats 4000000
namespace Sg
/-! ## the part of a graph whose edges are as much as the prices let -/
def tightN (hi : Int × Int) (p : List Int) (node : Nat) (es : List Edge) : List Edge := es.filter fun e => decide (excE hi p node e = 0)
def tightG (hi : Int × Int) (p : List Int) (G : Gr) : Gr := (List.range G.length).map fun i => tightN hi p i (G.getD i [])
theorem tight_len (hi : Int × Int) (p : List Int) (G : Gr) : (tightG hi p G).length = G.length := by
  unfold tightG; rw [List.length_map, List.length_range]
theorem tight_at {hi : Int × Int} {p : List Int} {G : Gr} {v : Nat} {es : List Edge} : (tightG hi p G)[v]? = some es ↔ ∃ fs, G[v]? = some fs ∧ es = tightN hi p v fs := by
  unfold tightG
  rw [List.getElem?_map]
  constructor
  · intro h
    obtain ⟨i, h1, h2⟩ := Option.map_eq_some_iff.mp h
    obtain ⟨hl, h3⟩ := List.getElem?_eq_some_iff.mp h1
    rw [List.getElem_range] at h3
    subst h3
    rw [List.length_range] at hl
    refine ⟨G[v], List.getElem?_eq_getElem hl, ?_⟩
    rw [← h2, List.getD_eq_getElem?_getD, List.getElem?_eq_getElem hl]; rfl
  · rintro ⟨fs, h1, rfl⟩
    have hl := (List.getElem?_eq_some_iff.mp h1).1
    rw [List.getElem?_range hl]
    show some (tightN hi p v (G.getD v [])) = _
    rw [List.getD_eq_getElem?_getD, h1]; rfl
theorem tight_mem {hi : Int × Int} {p : List Int} {G : Gr} {es : List Edge} (h : es ∈ tightG hi p G) : ∃ v fs, G[v]? = some fs ∧ es = tightN hi p v fs := by
  obtain ⟨v, hv⟩ := List.mem_iff_getElem?.mp h
  exact ⟨v, tight_at.mp hv⟩
theorem tight_wf {hi : Int × Int} {p : List Int} {G : Gr} (W : WfG G) : WfG (tightG hi p G) := ⟨fun es hes e he => by
  obtain ⟨v, fs, h1, rfl⟩ := tight_mem hes
  rw [tight_len]
  exact W.behind fs (List.mem_of_getElem? h1) e (List.mem_filter.mp he).1⟩
theorem tight_det {hi : Int × Int} {p : List Int} {G : Gr} (D : DetG G) : DetG (tightG hi p G) := fun es hes e he f hf h => by
  obtain ⟨v, fs, h1, rfl⟩ := tight_mem hes
  exact D fs (List.mem_of_getElem? h1) e (List.mem_filter.mp he).1 f (List.mem_filter.mp hf).1 h
/-- what a row of labels is worth -/
def sumL (gn : Int → Int) (ls : List Int) : Int := (ls.map gn).sum
theorem sumL_cons (gn : Int → Int) (x : Int) (ls : List Int) : sumL gn (x :: ls) = gn x + sumL gn ls := rfl
def GainG (gn : Int → Int) (G : Gr) : Prop := ∀ es ∈ G, ∀ e ∈ es, e.2.1 = gn e.1
def slackL (hi : Int × Int) (gn : Int → Int) (ls : List Int) : Int := hi.2 * sumL gn ls - (ls.length : Nat) * hi.1
theorem slack_cons (hi : Int × Int) (gn : Int → Int) (x : Int) (ls : List Int) : slackL hi gn (x :: ls) = hi.2 * gn x - hi.1 + slackL hi gn ls := by
  unfold slackL
  rw [sumL_cons, Int.mul_add, List.length_cons, Int.natCast_succ, Int.add_mul, Int.one_mul]
  omega
theorem slack_le {hi : Int × Int} {gn : Int → Int} {G : Gr} {p : List Int} (hg : GainG gn G) (C : Cert hi G p) {v x : Nat} {ls : List Int} (h : WkL G v x ls) : slackL hi gn ls ≤ prc p x - prc p v := C.walk (h.wlk hg)
theorem tight_walk {hi : Int × Int} {gn : Int → Int} {G : Gr} {p : List Int} (hg : GainG gn G) {v x : Nat} {ls : List Int} (h : WkL (tightG hi p G) v x ls) : WkL G v x ls ∧ slackL hi gn ls = prc p x - prc p v := by
  induction h with
  | nil => exact ⟨.nil, by unfold slackL sumL; rw [List.map_nil, List.sum_nil, Int.mul_zero, List.length_nil, Int.natCast_zero, Int.zero_mul]; omega⟩
  | @cons v x es e ls hv he _ ih =>
    obtain ⟨fs, h1, rfl⟩ := tight_at.mp hv
    obtain ⟨h2, h3⟩ := List.mem_filter.mp he
    have h3 := of_decide_eq_true h3
    refine ⟨.cons h1 h2 ih.1, ?_⟩
    have hgn := hg fs (List.mem_of_getElem? h1) e h2
    unfold excE at h3
    rw [slack_cons, ih.2, ← hgn]
    omega
theorem walk_tight {hi : Int × Int} {gn : Int → Int} {G : Gr} {p : List Int} (hg : GainG gn G) (C : Cert hi G p) {v x : Nat} {ls : List Int} (h : WkL G v x ls) : slackL hi gn ls = prc p x - prc p v → WkL (tightG hi p G) v x ls := by
  induction h with
  | nil => exact fun _ => .nil
  | @cons v x es e ls hv he hk ih =>
    intro hs
    have h1 := slack_le hg C hk
    have h2 := C v es hv e he
    have hgn := hg es (List.mem_of_getElem? hv) e he
    unfold excE at h2
    rw [slack_cons, ← hgn] at hs
    refine .cons (tight_at.mpr ⟨es, hv, rfl⟩) (List.mem_filter.mpr ⟨he, decide_eq_true ?_⟩) (ih (by omega))
    unfold excE
    omega
/-- the closed walks of the tight part are those with this mean -/
theorem tight_cyc {hi : Int × Int} {gn : Int → Int} {G : Gr} {p : List Int} (hg : GainG gn G) (C : Cert hi G p) {v : Nat} {ls : List Int} : WkL (tightG hi p G) v v ls ↔ WkL G v v ls ∧ hi.2 * sumL gn ls = (ls.length : Nat) * hi.1 := by
  constructor
  · intro h
    obtain ⟨a, b⟩ := tight_walk hg h
    unfold slackL at b
    exact ⟨a, by omega⟩
  · rintro ⟨a, b⟩
    refine walk_tight hg C a ?_
    unfold slackL
    omega
end Sg
set_option Elab.async false
set_option linter.all false
set_option maxRecDepth 100000
set_option maxHeartbeats 4000000
namespace Sg
open PySem PySem.Spec PyProof.Rows L2
/-! the places of the text -/
def topS (i : Nat) : Stmt := PySem.Challenge.pw_startgaps_k30_least_mean_distances.main.body.getD i (.Pass ⟨0, 0, 0, 0⟩)
abbrev s_is_int : Stmt := topS 2
theorem sc_is_int : FnScope ["thing"] ["thing"] (defScope s_is_int) := ⟨rfl, rfl, rfl, by decide +kernel, rfl, by decide +kernel, by decide +kernel⟩
abbrev s_is_between : Stmt := topS 3
theorem sc_is_between : FnScope ["thing", "least", "most"] ["thing", "least", "most"] (defScope s_is_between) := ⟨rfl, rfl, rfl, by decide +kernel, rfl, by decide +kernel, by decide +kernel⟩
abbrev s_fraction : Stmt := topS 4
theorem sc_fraction : FnScope ["top", "bottom", "shared"] ["top", "bottom"] (defScope s_fraction) := ⟨rfl, rfl, rfl, by decide +kernel, rfl, by decide +kernel, by decide +kernel⟩
abbrev s_greatest_mean : Stmt := topS 6
theorem sc_greatest_mean : FnScope ["graph", "highest", "prices", "cycle"] ["graph"] (defScope s_greatest_mean) := ⟨rfl, rfl, rfl, by decide +kernel, rfl, by decide +kernel, by decide +kernel⟩
abbrev s_excess : Stmt := topS 7
theorem sc_excess : FnScope ["edge", "highest", "before", "behind", "_", "gain", "top", "bottom"] ["edge", "highest", "before", "behind"] (defScope s_excess) := ⟨rfl, rfl, rfl, by decide +kernel, rfl, by decide +kernel, by decide +kernel⟩
abbrev s_tight_part : Stmt := topS 8
theorem sc_tight_part : FnScope ["graph", "highest", "prices", "edge", "node", "edges"] ["graph", "highest", "prices"] (defScope s_tight_part) := ⟨rfl, rfl, rfl, by decide +kernel, rfl, by decide +kernel, by decide +kernel⟩
abbrev s_smallest_cycle : Stmt := topS 9
theorem sc_smallest_cycle : FnScope ["graph", "sources", "found", "start", "most", "labels"] ["graph"] (defScope s_smallest_cycle) := ⟨rfl, rfl, rfl, by decide +kernel, rfl, by decide +kernel, by decide +kernel⟩
abbrev s_settled : Stmt := topS 10
theorem sc_settled : FnScope ["graph", "highest", "prices", "came_by", "cycle"] ["graph", "highest"] (defScope s_settled) := ⟨rfl, rfl, rfl, by decide +kernel, rfl, by decide +kernel, by decide +kernel⟩
abbrev s_raise_prices : Stmt := topS 11
theorem sc_raise_prices : FnScope ["graph", "highest", "prices", "came_by", "raised", "node", "edges", "edge", "_", "gain", "behind", "more"] ["graph", "highest", "prices", "came_by"] (defScope s_raise_prices) := ⟨rfl, rfl, rfl, by decide +kernel, rfl, by decide +kernel, by decide +kernel⟩
abbrev s_cycle_of : Stmt := topS 12
theorem sc_cycle_of : FnScope ["came_by", "seen_from", "start", "node", "_"] ["came_by"] (defScope s_cycle_of) := ⟨rfl, rfl, rfl, by decide +kernel, rfl, by decide +kernel, by decide +kernel⟩
abbrev s_measured : Stmt := topS 13
theorem sc_measured : FnScope ["came_by", "start", "node", "total", "length", "gain"] ["came_by", "start"] (defScope s_measured) := ⟨rfl, rfl, rfl, by decide +kernel, rfl, by decide +kernel, by decide +kernel⟩
abbrev s_sources : Stmt := topS 14
theorem sc_sources : FnScope ["graph", "sources", "_", "node", "edges", "behind"] ["graph"] (defScope s_sources) := ⟨rfl, rfl, rfl, by decide +kernel, rfl, by decide +kernel, by decide +kernel⟩
abbrev s_steps_to : Stmt := topS 15
theorem sc_steps_to : FnScope ["sources", "goal", "most", "steps", "layer", "count", "found", "node", "source"] ["sources", "goal", "most"] (defScope s_steps_to) := ⟨rfl, rfl, rfl, by decide +kernel, rfl, by decide +kernel, by decide +kernel⟩
abbrev s_labels_round : Stmt := topS 16
theorem sc_labels_round : FnScope ["graph", "start", "steps", "ways", "_", "behind", "labels", "node", "left", "nearer", "label"] ["graph", "start", "steps"] (defScope s_labels_round) := ⟨rfl, rfl, rfl, by decide +kernel, rfl, by decide +kernel, by decide +kernel⟩
abbrev s_is_work : Stmt := topS 30
theorem sc_is_work : FnScope ["thing", "item"] ["thing"] (defScope s_is_work) := ⟨rfl, rfl, rfl, by decide +kernel, rfl, by decide +kernel, by decide +kernel⟩
abbrev s_bars : Stmt := topS 31
theorem sc_bars : FnScope ["one", "other", "distance"] ["one", "other"] (defScope s_bars) := ⟨rfl, rfl, rfl, by decide +kernel, rfl, by decide +kernel, by decide +kernel⟩
abbrev s_require_work : Stmt := topS 32
theorem sc_require_work : FnScope ["thing"] ["thing"] (defScope s_require_work) := ⟨rfl, rfl, rfl, by decide +kernel, rfl, by decide +kernel, by decide +kernel⟩
abbrev s_clashes_behind : Stmt := topS 33
theorem sc_clashes_behind : FnScope ["one", "other", "distance", "here", "there"] ["one", "other", "distance"] (defScope s_clashes_behind) := ⟨rfl, rfl, rfl, by decide +kernel, rfl, by decide +kernel, by decide +kernel⟩
abbrev s_is_kind : Stmt := topS 36
theorem sc_is_kind : FnScope ["line", "thing"] ["line", "thing"] (defScope s_is_kind) := ⟨rfl, rfl, rfl, by decide +kernel, rfl, by decide +kernel, by decide +kernel⟩
abbrev s_require_kind : Stmt := topS 37
theorem sc_require_kind : FnScope ["line", "thing"] ["line", "thing"] (defScope s_require_kind) := ⟨rfl, rfl, rfl, by decide +kernel, rfl, by decide +kernel, by decide +kernel⟩
abbrev s_bars_of_all : Stmt := topS 38
theorem sc_bars_of_all : FnScope ["works", "other", "one"] ["works"] (defScope s_bars_of_all) := ⟨rfl, rfl, rfl, by decide +kernel, rfl, by decide +kernel, by decide +kernel⟩
abbrev s_Line_init : Stmt := inClass (topS 39) 0
theorem sc_Line_init : FnScope ["self", "works", "work", "row", "pair", "bar"] ["self", "works"] (defScope s_Line_init) := ⟨rfl, rfl, rfl, by decide +kernel, rfl, by decide +kernel, by decide +kernel⟩
abbrev s_Line_works : Stmt := inClass (topS 39) 1
theorem sc_Line_works : FnScope ["self"] ["self"] (defScope s_Line_works) := ⟨rfl, rfl, rfl, by decide +kernel, rfl, by decide +kernel, by decide +kernel⟩
abbrev s_Line_reach : Stmt := inClass (topS 39) 2
theorem sc_Line_reach : FnScope ["self"] ["self"] (defScope s_Line_reach) := ⟨rfl, rfl, rfl, by decide +kernel, rfl, by decide +kernel, by decide +kernel⟩
abbrev s_Line_len : Stmt := inClass (topS 39) 3
theorem sc_Line_len : FnScope ["self"] ["self"] (defScope s_Line_len) := ⟨rfl, rfl, rfl, by decide +kernel, rfl, by decide +kernel, by decide +kernel⟩
abbrev s_Line_getitem : Stmt := inClass (topS 39) 4
theorem sc_Line_getitem : FnScope ["self", "at"] ["self", "at"] (defScope s_Line_getitem) := ⟨rfl, rfl, rfl, by decide +kernel, rfl, by decide +kernel, by decide +kernel⟩
abbrev s_Line_call : Stmt := inClass (topS 39) 6
theorem sc_Line_call : FnScope ["self", "one", "other"] ["self", "one", "other"] (defScope s_Line_call) := ⟨rfl, rfl, rfl, by decide +kernel, rfl, by decide +kernel, by decide +kernel⟩
abbrev s_Line_add : Stmt := inClass (topS 39) 7
theorem sc_Line_add : FnScope ["self", "other", "works"] ["self", "other"] (defScope s_Line_add) := ⟨rfl, rfl, rfl, by decide +kernel, rfl, by decide +kernel, by decide +kernel⟩
abbrev s_Line_sub : Stmt := inClass (topS 39) 9
theorem sc_Line_sub : FnScope ["self", "other", "works"] ["self", "other"] (defScope s_Line_sub) := ⟨rfl, rfl, rfl, by decide +kernel, rfl, by decide +kernel, by decide +kernel⟩
abbrev s_Line_neg : Stmt := inClass (topS 39) 10
theorem sc_Line_neg : FnScope ["self", "works", "work"] ["self"] (defScope s_Line_neg) := ⟨rfl, rfl, rfl, by decide +kernel, rfl, by decide +kernel, by decide +kernel⟩
abbrev s_Line_eq : Stmt := inClass (topS 39) 11
theorem sc_Line_eq : FnScope ["self", "other"] ["self", "other"] (defScope s_Line_eq) := ⟨rfl, rfl, rfl, by decide +kernel, rfl, by decide +kernel, by decide +kernel⟩
abbrev s_Line_repr : Stmt := inClass (topS 39) 12
theorem sc_Line_repr : FnScope ["self"] ["self"] (defScope s_Line_repr) := ⟨rfl, rfl, rfl, by decide +kernel, rfl, by decide +kernel, by decide +kernel⟩
abbrev s_require_line : Stmt := topS 40
theorem sc_require_line : FnScope ["thing"] ["thing"] (defScope s_require_line) := ⟨rfl, rfl, rfl, by decide +kernel, rfl, by decide +kernel, by decide +kernel⟩
abbrev s_numbered_moves : Stmt := topS 45
theorem sc_numbered_moves : FnScope ["line", "moves", "ordered", "numbers", "number", "state", "choice", "behind"] ["line"] (defScope s_numbered_moves) := ⟨rfl, rfl, rfl, by decide +kernel, rfl, by decide +kernel, by decide +kernel⟩
abbrev s_require_near : Stmt := topS 46
theorem sc_require_near : FnScope ["line", "of_one", "of_several", "limit"] ["line", "of_one", "of_several"] (defScope s_require_near) := ⟨rfl, rfl, rfl, by decide +kernel, rfl, by decide +kernel, by decide +kernel⟩
abbrev s_empty_state : Stmt := topS 47
theorem sc_empty_state : FnScope ["line"] ["line"] (defScope s_empty_state) := ⟨rfl, rfl, rfl, by decide +kernel, rfl, by decide +kernel, by decide +kernel⟩
abbrev s_open_choices : Stmt := topS 48
theorem sc_open_choices : FnScope ["state", "kinds", "kind", "delays"] ["state"] (defScope s_open_choices) := ⟨rfl, rfl, rfl, by decide +kernel, rfl, by decide +kernel, by decide +kernel⟩
abbrev s_behind : Stmt := topS 49
theorem sc_behind : FnScope ["line", "state", "choice", "started", "found", "kind", "delays", "kept", "delay"] ["line", "state", "choice"] (defScope s_behind) := ⟨rfl, rfl, rfl, by decide +kernel, rfl, by decide +kernel, by decide +kernel⟩
abbrev s_delays : Stmt := topS 50
theorem sc_delays : FnScope ["line", "started", "kind", "ago", "other", "bar"] ["line", "started", "kind"] (defScope s_delays) := ⟨rfl, rfl, rfl, by decide +kernel, rfl, by decide +kernel, by decide +kernel⟩
abbrev s_ascending : Stmt := topS 51
theorem sc_ascending : FnScope ["numbers"] ["numbers"] (defScope s_ascending) := ⟨rfl, rfl, rfl, by decide +kernel, rfl, by decide +kernel, by decide +kernel⟩
abbrev s_moves : Stmt := topS 52
theorem sc_moves : FnScope ["line", "moves", "waiting", "state", "choice", "_", "behind"] ["line"] (defScope s_moves) := ⟨rfl, rfl, rfl, by decide +kernel, rfl, by decide +kernel, by decide +kernel⟩
abbrev s_worth_of : Stmt := topS 55
theorem sc_worth_of : FnScope ["worths", "choice"] ["worths", "choice"] (defScope s_worth_of) := ⟨rfl, rfl, rfl, by decide +kernel, rfl, by decide +kernel, by decide +kernel⟩
abbrev s_require_worths : Stmt := topS 56
theorem sc_require_worths : FnScope ["line", "thing"] ["line", "thing"] (defScope s_require_worths) := ⟨rfl, rfl, rfl, by decide +kernel, rfl, by decide +kernel, by decide +kernel⟩
abbrev s_is_worths : Stmt := topS 57
theorem sc_is_worths : FnScope ["line", "thing", "worth"] ["line", "thing"] (defScope s_is_worths) := ⟨rfl, rfl, rfl, by decide +kernel, rfl, by decide +kernel, by decide +kernel⟩
abbrev s_best : Stmt := topS 59
theorem sc_best : FnScope ["line", "worths", "graph", "highest", "potentials"] ["line", "worths"] (defScope s_best) := ⟨rfl, rfl, rfl, by decide +kernel, rfl, by decide +kernel, by decide +kernel⟩
abbrev s_weighted : Stmt := topS 60
theorem sc_weighted : FnScope ["moves", "worths", "choice", "behind", "open_moves"] ["moves", "worths"] (defScope s_weighted) := ⟨rfl, rfl, rfl, by decide +kernel, rfl, by decide +kernel, by decide +kernel⟩
abbrev s_graph : Stmt := topS 61
theorem sc_graph : FnScope ["line", "worths"] ["line", "worths"] (defScope s_graph) := ⟨rfl, rfl, rfl, by decide +kernel, rfl, by decide +kernel, by decide +kernel⟩
abbrev s_gap : Stmt := topS 63
theorem sc_gap : FnScope ["work", "top", "bottom", "_"] ["work"] (defScope s_gap) := ⟨rfl, rfl, rfl, by decide +kernel, rfl, by decide +kernel, by decide +kernel⟩
abbrev s_l_cell_at : Stmt := topS 65
theorem sc_l_cell_at : FnScope ["_law_script", "_law_k"] ["_law_script", "_law_k"] (defScope s_l_cell_at) := ⟨rfl, rfl, rfl, by decide +kernel, rfl, by decide +kernel, by decide +kernel⟩
abbrev s_l_pen : Stmt := topS 66
theorem sc_l_pen : FnScope ["_law_cell"] ["_law_cell"] (defScope s_l_pen) := ⟨rfl, rfl, rfl, by decide +kernel, rfl, by decide +kernel, by decide +kernel⟩
abbrev s_l_draw : Stmt := topS 67
theorem sc_l_draw : FnScope ["_law_pen_here", "_law_many", "_law_found", "_law_mixed"] ["_law_pen_here", "_law_many"] (defScope s_l_draw) := ⟨rfl, rfl, rfl, by decide +kernel, rfl, by decide +kernel, by decide +kernel⟩
abbrev s_l_pick : Stmt := topS 68
theorem sc_l_pick : FnScope ["_law_pen_here", "_law_some"] ["_law_pen_here", "_law_some"] (defScope s_l_pick) := ⟨rfl, rfl, rfl, by decide +kernel, rfl, by decide +kernel, by decide +kernel⟩
abbrev s_l_same : Stmt := topS 69
theorem sc_l_same : FnScope ["_law_found", "_law_due"] ["_law_found", "_law_due"] (defScope s_l_same) := ⟨rfl, rfl, rfl, by decide +kernel, rfl, by decide +kernel, by decide +kernel⟩
abbrev s_l_names : Stmt := topS 70
theorem sc_l_names : FnScope ["_law_pen_here", "_law_first", "_law_step", "_law_at"] ["_law_pen_here"] (defScope s_l_names) := ⟨rfl, rfl, rfl, by decide +kernel, rfl, by decide +kernel, by decide +kernel⟩
abbrev s_l_work : Stmt := topS 71
theorem sc_l_work : FnScope ["_law_pen_here", "_law_names_here", "_law_far", "_law_blocks", "_law_many", "_law_rare", "_law_items", "_law_tick", "_law_station"] ["_law_pen_here", "_law_names_here", "_law_far", "_law_blocks"] (defScope s_l_work) := ⟨rfl, rfl, rfl, by decide +kernel, rfl, by decide +kernel, by decide +kernel⟩
abbrev s_l_between : Stmt := topS 72
theorem sc_l_between : FnScope ["_law_one", "_law_other", "_law_some", "_law_tick", "_law_station", "_law_at"] ["_law_one", "_law_other"] (defScope s_l_between) := ⟨rfl, rfl, rfl, by decide +kernel, rfl, by decide +kernel, by decide +kernel⟩
abbrev s_l_lowest : Stmt := topS 73
theorem sc_l_lowest : FnScope ["_law_top", "_law_bottom", "_law_one", "_law_other"] ["_law_top", "_law_bottom"] (defScope s_l_lowest) := ⟨rfl, rfl, rfl, by decide +kernel, rfl, by decide +kernel, by decide +kernel⟩
abbrev s_l_masks : Stmt := topS 74
theorem sc_l_masks : FnScope ["_law_spans", "_law_barred", "_law_bar", "_law_found", "_law_waiting", "_law_mask", "_law_later", "_law_starts"] ["_law_spans"] (defScope s_l_masks) := ⟨rfl, rfl, rfl, by decide +kernel, rfl, by decide +kernel, by decide +kernel⟩
abbrev s_l_rows : Stmt := topS 75
theorem sc_l_rows : FnScope ["_law_found", "_law_rows_here", "_law_turn", "_law_row", "_law_mask", "_law_later", "_law_starts"] ["_law_found"] (defScope s_l_rows) := ⟨rfl, rfl, rfl, by decide +kernel, rfl, by decide +kernel, by decide +kernel⟩
abbrev s_l_gap : Stmt := topS 76
theorem sc_l_gap : FnScope ["_law_found", "_law_rows_here", "_law_greatest", "_law_last", "_law_mask", "_law_least", "_law_turn", "_law_one"] ["_law_found"] (defScope s_l_gap) := ⟨rfl, rfl, rfl, by decide +kernel, rfl, by decide +kernel, by decide +kernel⟩
abbrev s_l_single : Stmt := topS 77
theorem sc_l_single : FnScope ["_law_pen_here", "_law_turn", "_law_far", "_law_task"] ["_law_pen_here"] (defScope s_l_single) := ⟨rfl, rfl, rfl, by decide +kernel, rfl, by decide +kernel, by decide +kernel⟩
abbrev s_law : Stmt := topS 78
theorem sc_law : FnScope ["_law_script", "_law_k", "_law_pen_here", "_law_turn", "_law_task", "_law_due", "_law_again"] ["_law_script"] (defScope s_law) := ⟨rfl, rfl, rfl, by decide +kernel, rfl, by decide +kernel, by decide +kernel⟩
end Sg
set_option Elab.async false
set_option linter.all false
set_option maxRecDepth 100000
set_option maxHeartbeats 4000000
namespace Sg
open PySem PySem.Spec PyProof.Rows L2 StX
section
variable {P : Program} {w : World} {K : PySem.W.Frag} {mg : Str → Option Value} {base : Heap}
/-! ### is_int, is_between: of ints -/
def spIsInt : Sp := fun vs H Q _ => ∃ i : Int, vs = [.int i] ∧ Q (.bl true) H
theorem ok_is_int {f : Addr} {fd : FuncData} {k : Nat} (F : Fun K "is_int" "is_int" s_is_int f fd) (m1 : mg "isinstance" = none) (m2 : mg "int" = none) (m3 : mg "bool" = none) :
    FnOk P w K mg base CX0 (k + 1) f fd ["thing"] spIsInt := by
  refine F.ok sc_is_int (fun vs H Q E h => ?_) (fun cdv A outer s H vs Q E hr h => ?_)
  · obtain ⟨i, rfl, _⟩ := h; rfl
  · obtain ⟨i, rfl, q⟩ := h
    refine ⟨_, pss_one (ps_ret (pe_and
      (pe_callB call_isi (by rfl) m1 (by decide +kernel) (pa_cons (pv 0) (pa_cons (pe_bltn (v := .ty "int") (by rfl) m2 (by decide +kernel) rfl) pa_nil)))
      (pe_one (pe_not (pe_callB call_isi (by rfl) m1 (by decide +kernel) (pa_cons (pv 0) (pa_cons (pe_bltn (v := .ty "bool") (by rfl) m3 (by decide +kernel) rfl) pa_nil))))))), ?_⟩
    refine ⟨.int i, rfl, .int i, .ty "int", _, _, true, rfl, .ty _, .base (.int i), kit_ty (by decide +kernel), true, rfl, iteT ?_⟩
    exact ⟨.int i, rfl, .int i, .ty "bool", _, _, false, rfl, .ty _, .base (.int i), kit_ty (by decide +kernel), false, rfl, q⟩
def spIsBetween : Sp := fun vs H Q _ => ∃ i l m : Int, vs = [.int i, .int l, .int m] ∧ Q (.bl (decide (l ≤ i) && decide (i ≤ m))) H
theorem ok_is_between {f f1 : Addr} {fd fd1 : FuncData} {k : Nat} (F : Fun K "is_between" "is_between" s_is_between f fd)
    (G1 : FnOk P w K mg base CX0 k f1 fd1 ["thing"] spIsInt) (kp1 : PySem.W.keepIn K (.ref f1) = true) (b1 : Binds K fd1 ["thing"] []) (g1 : mg "is_int" = some (.ref f1)) :
    FnOk P w K mg base CX0 (k + 1) f fd ["thing", "least", "most"] spIsBetween := by
  refine F.ok sc_is_between (fun vs H Q E h => ?_) (fun cdv A outer s H vs Q E hr h => ?_)
  · obtain ⟨i, l, m, rfl, _⟩ := h; rfl
  · obtain ⟨i, l, m, rfl, q⟩ := h
    refine ⟨_, pss_one (ps_ret (pe_and (pe_call G1 hr (by rfl) g1 kp1 b1 .nil pass0 (pa_cons (pv 0) pa_nil)) (pe_one (pe_chain op_le op_le (pv 1) (pv 0) (pv 2))))), ?_⟩
    refine ⟨.int i, rfl, i, rfl, true, rfl, iteT ?_⟩
    refine ⟨.int l, rfl, .int i, rfl, l, i, rfl, rfl, decide (l ≤ i), rfl, ?_⟩
    by_cases h1 : l ≤ i
    · rw [decide_eq_true h1] at q ⊢
      exact iteT ⟨.int m, rfl, i, m, rfl, rfl, q⟩
    · rw [decide_eq_false h1] at q ⊢
      exact iteF q
/-! ### the script's cells, the pen -/
def spCell (K : PySem.W.Frag) : Sp := fun vs H Q _ => ∃ (a : Addr) (ns : List Int) (k : Nat), vs = [.ref a, .int k] ∧ SqL K H a (ns.map V.int) ∧ ∀ r : Int, Q (.int r) H
theorem ok_l_cell_at {f : Addr} {fd : FuncData} {k : Nat} (F : Fun K "_law_cell_at" "_law_cell_at" s_l_cell_at f fd) (m1 : mg "len" = none) :
    FnOk P w K mg base CX0 (k + 1) f fd ["_law_script", "_law_k"] (spCell K) := by
  refine F.ok sc_l_cell_at (fun vs H Q E h => ?_) (fun cdv A outer s H vs Q E hr h => ?_)
  · obtain ⟨a, ns, j, rfl, _⟩ := h; rfl
  · obtain ⟨a, ns, j, rfl, hS, q⟩ := h
    refine ⟨_, pss_cons (ps_if (pt_cmpR op_lt (pv 1) (pe_callB call_len_seq (by rfl) m1 PySem.boot_len (pa_cons (pv 0) pa_nil)) (nomark _))
      (pss_one (ps_ret (pe_ix ix_list (pv 0) (pv 1) (fun _ _ => rfl)))) pss_nil) (pss_one (ps_ret pe_int)), ?_⟩
    refine ⟨.int j, rfl, .ref a, rfl, a, ns.map V.int, rfl, .inl hS, _, _, rfl, rfl, _, rfl, ite2 (fun e => ?_) (fun e => ?_)⟩
    · have e1 : (j : Int) < ((ns.map V.int).length : Nat) := of_decide_eq_true e
      have e2 : j < ns.length := by rw [List.length_map] at e1; omega
      refine ⟨.ref a, rfl, .int j, rfl, a, ns.map V.int, (j : Int), .int ns[j], rfl, rfl, hS, atI_nat ?_, q _⟩
      rw [List.getElem?_map, List.getElem?_eq_getElem e2]; rfl
    · exact q 0
def spPen : Sp := fun vs H Q _ => ∃ c : Int, vs = [.int c] ∧ ∀ H' p, H p = none → Same H H' → PenAt H' p → Q (.ref p) H'
theorem ok_l_pen {f : Addr} {fd : FuncData} {k : Nat} (F : Fun K "_law_pen" "_law_pen" s_l_pen f fd) (m1 : mg "max" = none) :
    FnOk P w K mg base CX0 (k + 1) f fd ["_law_cell"] spPen := by
  refine F.ok sc_l_pen (fun vs H Q E h => ?_) (fun cdv A outer s H vs Q E hr h => ?_)
  · obtain ⟨c, rfl, _⟩ := h; rfl
  · obtain ⟨c, rfl, q⟩ := h
    refine ⟨_, pss_one (ps_ret (pe_lst (pa_cons (pe_callB (call_max2 rfl) (by rfl) m1 (by decide +kernel) (pa_cons pe_int (pa_cons (pe_op op_sub (pv 0) (pe_op op_pow pe_int pe_int)) pa_nil)))
      (pa_cons (pe_op op_add (pe_op op_mod (pv 0) pe_int) pe_int) (pa_cons pe_int pa_nil))))), ?_⟩
    refine ⟨.int c, rfl, 10, 18, rfl, rfl, (by show (0 : Int) ≤ 18 ∧ (18 : Int) ≤ 1000000 ∧ _; decide), c, _, rfl, rfl, _, _, rfl, ?_⟩
    refine ⟨.int c, rfl, c, 2147483629, rfl, rfl, (by show (0 : Int) < 2147483629; decide), _, _, rfl, rfl, ?_⟩
    refine ⟨by show 3 ≤ sizeLine; decide, fun p hp => q _ p hp (same_new hp) ⟨_, _, _, upd_same, ?_⟩⟩
    have h1 := Int.emod_nonneg c (show (2147483629 : Int) ≠ 0 by decide)
    have h2 := Int.emod_lt_of_pos c (show (0 : Int) < 2147483629 by decide)
    constructor <;> omega
/-! ### a draw -/
def spDraw : Sp := fun vs H Q _ => ∃ (p : Addr) (m : Int), vs = [.ref p, .int m] ∧ PenAt H p ∧ 0 < m ∧ m < 1000000 ∧
  ∀ H' (r : Int), 0 ≤ r → r < m → PenAt H' p → But p H H' → Q (.int r) H'
theorem ok_l_draw {f : Addr} {fd : FuncData} {k : Nat} (F : Fun K "_law_draw" "_law_draw" s_l_draw f fd) :
    FnOk P w K mg base CX0 (k + 1) f fd ["_law_pen_here", "_law_many"] spDraw := by
  refine F.ok sc_l_draw (fun vs H Q E h => ?_) (fun cdv A outer s H vs Q E hr h => ?_)
  · obtain ⟨p, m, rfl, _⟩ := h; rfl
  · obtain ⟨p, m, rfl, ⟨a, b, c, hp, hb0, hb1⟩, hm0, hm1, q⟩ := h
    refine ⟨_, pss_cons (ps_if (pt_cmpR op_gt (pe_ix ix_list (pv 0) pe_int (fun _ _ => rfl)) pe_int (nomark _))
        (pss_cons (ps_set (i := 2) sc_l_draw.nd rfl (.inl rfl) (pe_op op_mod (pe_ix ix_list (pv 0) pe_int (fun _ _ => rfl)) (pv 1)))
        (pss_cons (ps_asg (pe_op op_fdiv (pe_ix ix_list (pv 0) pe_int (fun _ _ => rfl)) (pv 1)) (pg_sub (pv 0) pe_int set_list))
        (pss_one (ps_ret (pv 2))))) pss_nil)
      (pss_cons (ps_asg (pe_op op_add (pe_ix ix_list (pv 0) pe_int (fun _ _ => rfl)) pe_int) (pg_sub (pv 0) pe_int set_list))
      (pss_cons (ps_asg (pe_op op_mod (pe_op op_add (pe_op op_add (pe_op op_mul (pe_ix ix_list (pv 0) pe_int (fun _ _ => rfl)) pe_int)
            (pe_op op_mul pe_int (pe_ix ix_list (pv 0) pe_int (fun _ _ => rfl)))) pe_int) pe_int) (pg_sub (pv 0) pe_int set_list))
      (pss_cons (ps_set (i := 3) sc_l_draw.nd rfl (.inl rfl) (pe_op op_mod (pe_op op_add (pe_op op_add (pe_op op_mul (pe_ix ix_list (pv 0) pe_int (fun _ _ => rfl)) (pe_ix ix_list (pv 0) pe_int (fun _ _ => rfl)))
            (pe_op op_mul pe_int (pe_ix ix_list (pv 0) pe_int (fun _ _ => rfl)))) pe_int) pe_int))
      (pss_cons (ps_set (i := 3) sc_l_draw.nd rfl (.inl rfl) (pe_op op_mod (pe_op op_add (pe_op op_mul (pv 3) (pv 3)) (pe_op op_mul pe_int (pv 3))) pe_int))
      (pss_one (ps_ret (pe_op op_mod (pe_op op_fdiv (pv 3) pe_int) (pv 1)))))))), ?_⟩
    refine ⟨.ref p, rfl, p, _, 0, .int a, rfl, rfl, .of hp, atI0, a, 0, rfl, rfl, _, rfl, ite2 (fun e => ?_) (fun e => ?_)⟩
    · have ha : 0 < a := of_decide_eq_true e
      refine ⟨.ref p, rfl, p, _, 0, .int a, rfl, rfl, .of hp, atI0, .int m, rfl, a, m, rfl, rfl, hm0, ?_⟩
      refine ⟨.ref p, rfl, p, _, 0, .int a, rfl, rfl, .of hp, atI0, .int m, rfl, a, m, rfl, rfl, ⟨hm0, (by omega)⟩, ?_⟩
      refine ⟨.ref p, rfl, p, _, 0, 0, rfl, rfl, hp, rfl, ?_⟩
      refine ⟨.int (a % m), rfl, q _ _ (Int.emod_nonneg a (by omega)) (Int.emod_lt_of_pos a hm0) ⟨a / m, b, c, upd_same, hb0, hb1⟩ But.upd⟩
    · refine ⟨.ref p, rfl, p, _, 2, .int c, rfl, rfl, .of hp, atI2, c, 1, rfl, rfl, ?_⟩
      refine ⟨.ref p, rfl, p, _, 2, 2, rfl, rfl, hp, rfl, ?_⟩
      have hp1 : (upd H p (.lst [.int a, .int b, .int (c + 1)])) p = some (.lst [.int a, .int b, .int (c + 1)]) := upd_same
      refine ⟨.ref p, rfl, p, _, 1, .int b, rfl, rfl, .of hp1, atI1, b, 48271, rfl, rfl, .inl ⟨by omega, by omega⟩, ?_⟩
      refine ⟨.ref p, rfl, p, _, 2, .int (c + 1), rfl, rfl, .of hp1, atI2, 1009, c + 1, rfl, rfl, .inl (by decide), ?_⟩
      refine ⟨_, _, rfl, rfl, _, _, rfl, rfl, _, 2147483647, rfl, rfl, (by show (0 : Int) < 2147483647; decide), ?_⟩
      refine ⟨.ref p, rfl, p, _, 1, 1, rfl, rfl, hp1, rfl, ?_⟩
      dsimp only [List.set]
      generalize hb' : (b * 48271 + 1009 * (c + 1) + 7) % 2147483647 = b'
      have g1 : 0 ≤ b' := by rw [← hb']; exact Int.emod_nonneg _ (by decide)
      have g2 : b' < 2147483647 := by rw [← hb']; exact Int.emod_lt_of_pos _ (by decide)
      have hp2 : (upd (upd H p (.lst [.int a, .int b, .int (c + 1)])) p (.lst [.int a, .int b', .int (c + 1)])) p = some (.lst [.int a, .int b', .int (c + 1)]) := upd_same
      refine ⟨.ref p, rfl, p, _, 1, .int b', rfl, rfl, .of hp2, atI1, .ref p, rfl, p, _, 1, .int b', rfl, rfl, .of hp2, atI1, b', b', rfl, rfl, .inl ⟨by omega, by omega⟩, ?_⟩
      refine ⟨.ref p, rfl, p, _, 1, .int b', rfl, rfl, .of hp2, atI1, 69621, b', rfl, rfl, .inl (by decide), ?_⟩
      refine ⟨_, _, rfl, rfl, _, _, rfl, rfl, _, 2147483629, rfl, rfl, (by show (0 : Int) < 2147483629; decide), ?_⟩
      dsimp only
      generalize ht : (b' * b' + 69621 * b' + 11) % 2147483629 = t
      have t1 : 0 ≤ t := by rw [← ht]; exact Int.emod_nonneg _ (by decide)
      have t2 : t < 2147483629 := by rw [← ht]; exact Int.emod_lt_of_pos _ (by decide)
      refine ⟨.int t, rfl, .int t, rfl, t, t, rfl, rfl, .inl ⟨by omega, by omega⟩, .int t, rfl, 40014, t, rfl, rfl, .inl (by decide), _, _, rfl, rfl, _, 2147483587, rfl, rfl, (by show (0 : Int) < 2147483587; decide), ?_⟩
      refine ⟨_, rfl, _, 16, rfl, rfl, ⟨by decide, by decide⟩, .int m, rfl, _, m, rfl, rfl, hm0, ?_⟩
      refine q _ _ (Int.emod_nonneg _ (by omega)) (Int.emod_lt_of_pos _ hm0) ⟨a, b', c + 1, upd_same, by omega, by omega⟩ ?_
      exact But.upd.trans But.upd
end
end Sg
set_option Elab.async false
set_option linter.all false
set_option maxRecDepth 100000
set_option maxHeartbeats 4000000
namespace Sg
open PySem PySem.Spec PyProof.Rows L2
section
variable {P : Program} {w : World} {K : PySem.W.Frag} {mg : Str → Option Value} {base : Heap}
/-! ### is_work, of a work -/
def spIsWork (K : PySem.W.Frag) : Sp := fun vs H Q _ => ∃ (a : Addr) (ns : List Int), vs = [.ref a] ∧ SqT K H a (ns.map V.int) ∧ IsWork ns ∧ ∀ H', Same H H' → Q (.bl true) H'
theorem ok_is_work {f f1 : Addr} {fd fd1 : FuncData} {k : Nat} (F : Fun K "is_work" "is_work" s_is_work f fd) (N : Nums mg)
    (G1 : FnOk P w K mg base CX0 k f1 fd1 ["thing", "least", "most"] spIsBetween) (kp1 : PySem.W.keepIn K (.ref f1) = true) (b1 : Binds K fd1 ["thing", "least", "most"] []) (g1 : mg "is_between" = some (.ref f1))
    (m1 : mg "isinstance" = none) (m2 : mg "tuple" = none) (m3 : mg "len" = none) (m4 : mg "all" = none) :
    FnOk P w K mg base CX0 (k + 1) f fd ["thing"] (spIsWork K) := by
  obtain ⟨t1, n1⟩ := N.nowhere
  obtain ⟨t2, n2⟩ := N.stations
  obtain ⟨t3, n3⟩ := N.most
  refine F.ok sc_is_work (fun vs H Q E h => ?_) (fun cdv A outer s H vs Q E hr h => ?_)
  · obtain ⟨a, ns, rfl, _⟩ := h; rfl
  · obtain ⟨a, ns, rfl, hS, hw, q⟩ := h
    refine ⟨_, pss_cons (ps_if (PW.pt (pw_or (pt_not (pt_val (pe_callB call_isi (by rfl) m1 (by decide +kernel) (pa_cons (pv 0) (pa_cons (pe_bltn (v := .ty "tuple") (by rfl) m2 (by decide +kernel) rfl) pa_nil)))))
          (pw_or1 (pt_not (pt_chain op_le op_le pe_int (pe_callB call_len_seq (by rfl) m3 PySem.boot_len (pa_cons (pv 0) pa_nil)) (pe_glob (v := .int 60) (by rfl) n3 ⟨_, rfl⟩))))))
        (pss_one (ps_ret pe_bl)) pss_nil)
      (pss_cons (ps_if (pt_not (pt_val (pe_callB (cr_all rfl) (by rfl) m4 (by decide +kernel) (pa_cons
          (pe_lc (own := [("item", 1)]) (g := gName 1) (tt := tYes) rfl sc_is_work.nd (pi_tup (pv 0)) (blkOk_by (N := ["thing", "item"]) (sc := defScope s_is_work) (by decide +kernel))
            (fun _ _ _ _ _ => pg_name (i := 1) sc_is_work.nd rfl (Or.inl rfl)) (fun _ _ _ _ _ => pts_nil)
            (fun _ _ _ _ _ => pe_call G1 hr (by rfl) g1 kp1 b1 .nil pass0 (pa_cons (pv 1) (pa_cons (pe_glob (v := .int (-1)) (by rfl) n1 ⟨_, rfl⟩) (pa_cons (pe_op op_sub (pe_glob (v := .int 10) (by rfl) n2 ⟨_, rfl⟩) pe_int) pa_nil))))) pa_nil))))
        (pss_one (ps_ret pe_bl)) pss_nil)
      (pss_one (ps_ret (pe_and (pe_cmpR op_ne (pe_ix ix_tup (pv 0) pe_int (fun _ _ => rfl)) (pe_glob (v := .int (-1)) (by rfl) n1 ⟨_, rfl⟩) (nomark _))
        (pe_one (pe_cmpR op_ne (pe_ix ix_tup (pv 0) (pe_un un_neg pe_int) (fun _ _ => rfl)) (pe_glob (v := .int (-1)) (by rfl) n1 ⟨_, rfl⟩) (nomark _))))))), ?_⟩
    have l1 : ((ns.map V.int).length : Int) = ns.length := by rw [List.length_map]
    refine ⟨.ref a, rfl, .ref a, .ty "tuple", _, _, true, rfl, .ty _, tyT hS, kit_ty (by decide +kernel), true, rfl, iteF ?_⟩
    refine ⟨.ref a, rfl, a, ns.map V.int, rfl, .inr hS, 1, _, rfl, rfl, _, rfl, ?_⟩
    have c1 : decide ((1 : Int) ≤ ((ns.map V.int).length : Nat)) = true := decide_eq_true (by rw [List.length_map]; have := hw.pos; omega)
    rw [c1]
    refine iteT ⟨_, 60, rfl, rfl, _, rfl, ?_⟩
    have c2 : decide ((((ns.map V.int).length : Nat) : Int) ≤ 60) = true := decide_eq_true (by rw [List.length_map]; have := hw.most; omega)
    rw [c2]
    refine iteF ?_
    refine ⟨.ref a, rfl, a, rfl, ⟨_, hS⟩, fun D hD => ?_⟩
    refine lc_tup (xs := ns.map V.int) (fun i H' => Same H H' ∧ H' D = some (.lst ((((ns.take i).map inR)).map V.bl))) ⟨same_new hD, upd_same⟩ (fun i H' _ h => Same.tup h.1 hS) (fun i x H' hx h => ?_) (fun H' h => ?_)
    · rw [List.getElem?_map] at hx
      obtain ⟨z, hz, rfl⟩ := Option.map_eq_some_iff.mp hx
      have hl : i < ns.length := (List.getElem?_eq_some_iff.mp hz).1
      refine ⟨rfl, .int z, rfl, 10, 1, rfl, rfl, z, -1, _, rfl, ?_⟩
      refine ⟨_, h.2, ?_, fun b o e => ?_, ?_⟩
      · rw [List.length_map, List.length_map, List.length_take]
        have := hw.most
        exact small1000 (by omega)
      · rw [upd_ne (ne_of_none e hD)]
        exact h.1 _ _ e
      · rw [upd_same, List.take_add_one, hz, List.map_append, List.map_append]
        rfl
    · have hall : (((ns.take ns.length).map inR)).all id = true := by
        rw [List.take_length, List.all_map, List.all_eq_true]
        intro x hx
        have := hw.items x hx
        simp [inR, this.1, this.2]
      have h2 := h.2
      rw [List.length_map] at h2
      refine ⟨D, _, rfl, .of h2, true, congrArg V.bl hall, iteF ?_⟩
      have hS' : SqT K H' a (ns.map V.int) := Same.tup h.1 hS
      obtain ⟨x, hx⟩ : ∃ x, ns[0]? = some x := ⟨ns[0]'(hw.pos), List.getElem?_eq_getElem _⟩
      have hpos := hw.pos
      obtain ⟨y, hy⟩ : ∃ y, ns[ns.length - 1]? = some y := ⟨ns[ns.length - 1]'(by omega), List.getElem?_eq_getElem _⟩
      have gx : (ns.map V.int)[0]? = some (.int x) := by rw [List.getElem?_map, hx]; rfl
      have gy : atI (ns.map V.int) (-1) = some (.int y) := by
        have hne : ns ≠ [] := fun z => by rw [z] at hpos; exact absurd hpos (by decide)
        have e1 : ns = ns.dropLast ++ [y] := by
          have e2 : ns.getLast hne = y := by
            have := List.getLast_eq_getElem hne
            rw [this]
            exact (List.getElem?_eq_some_iff.mp hy).2
          rw [← e2, List.dropLast_concat_getLast]
        rw [e1, List.map_append]
        exact atI_last _ _
      refine ⟨.ref a, rfl, a, _, 0, .int x, rfl, rfl, hS', atI_nat (j := 0) gx, rfl, ?_⟩
      have d1 : decide (V.int x = V.int (-1)) = false := decide_eq_false fun z => hw.head x hx (V.int.inj z)
      rw [d1]
      refine ⟨true, rfl, iteT ?_⟩
      refine ⟨.ref a, rfl, 1, rfl, a, _, -1, .int y, rfl, rfl, hS', gy, rfl, ?_⟩
      have d2 : decide (V.int y = V.int (-1)) = false := decide_eq_false fun z => hw.last y hy (V.int.inj z)
      rw [d2]
      exact q H' h.1
def spReq (K : PySem.W.Frag) : Sp := fun vs H Q _ => ∃ (a : Addr) (ns : List Int), vs = [.ref a] ∧ SqT K H a (ns.map V.int) ∧ IsWork ns ∧ ∀ H', Same H H' → Q .non H'
theorem ok_require_work {f f1 : Addr} {fd fd1 : FuncData} {k : Nat} (F : Fun K "require_work" "require_work" s_require_work f fd)
    (G1 : FnOk P w K mg base CX0 k f1 fd1 ["thing"] (spIsWork K)) (kp1 : PySem.W.keepIn K (.ref f1) = true) (b1 : Binds K fd1 ["thing"] []) (g1 : mg "is_work" = some (.ref f1)) :
    FnOk P w K mg base CX0 (k + 1) f fd ["thing"] (spReq K) := by
  refine F.ok sc_require_work (fun vs H Q E h => ?_) (fun cdv A outer s H vs Q E hr h => ?_)
  · obtain ⟨a, ns, rfl, _⟩ := h; rfl
  · obtain ⟨a, ns, rfl, hS, hw, q⟩ := h
    refine ⟨_, pss_one (ps_if (pt_not (pt_val (pe_call G1 hr (by rfl) g1 kp1 b1 .nil pass0 (pa_cons (pv 0) pa_nil)))) (pss_one ps_never) pss_nil), ?_⟩
    exact ⟨.ref a, rfl, a, ns, rfl, hS, hw, fun H' sm => ⟨true, rfl, iteF (q H' sm)⟩⟩
/-! ### _clashes_behind -/
def spClash (K : PySem.W.Frag) : Sp := fun vs H Q _ => ∃ (a b : Addr) (one other : List Int) (d : Nat), vs = [.ref a, .ref b, .int d] ∧ SqT K H a (one.map V.int) ∧ SqT K H b (other.map V.int) ∧ one.length ≤ 60 ∧ 1 ≤ d ∧ d < one.length ∧
  ∀ H', Same H H' → Q (.bl (clashB one other d)) H'
theorem ok_clashes_behind {f : Addr} {fd : FuncData} {k : Nat} (F : Fun K "_clashes_behind" "_clashes_behind" s_clashes_behind f fd) (N : Nums mg) (m1 : mg "any" = none) (m2 : mg "zip" = none) :
    FnOk P w K mg base CX0 (k + 1) f fd ["one", "other", "distance"] (spClash K) := by
  obtain ⟨t1, n1⟩ := N.nowhere
  refine F.ok sc_clashes_behind (fun vs H Q E h => ?_) (fun cdv A outer s H vs Q E hr h => ?_)
  · obtain ⟨a, b, o1, o2, d, rfl, _⟩ := h; rfl
  · obtain ⟨a, b, one, other, d, rfl, hA, hB, hm, hd1, hd2, q⟩ := h
    refine ⟨_, pss_one (ps_ret (pe_callB (cr_any rfl) (by rfl) m1 (by decide +kernel) (pa_cons
      (pe_lc (own := [("here", 3), ("there", 4)]) (g := gTup K 2 (gCons (gName 3) (gCons (gName 4) gNil))) (tt := tYes) rfl sc_clashes_behind.nd (RZ.pi_zipA (by rfl) m2 (pa_cons (pe_slice sl_tup (pv 0) (po_some (pv 2)) po_none) (pa_cons (pv 1) pa_nil)))
        (blkOk_by (N := ["one", "other", "distance", "here", "there"]) (sc := defScope s_clashes_behind) (by decide +kernel))
        (fun _ _ _ _ _ => pg_tup rfl (pgs_cons (pg_name (i := 3) sc_clashes_behind.nd rfl (Or.inl rfl)) (pgs_cons (pg_name (i := 4) sc_clashes_behind.nd rfl (Or.inl rfl)) pgs_nil)))
        (fun _ _ _ _ _ => pts_nil)
        (fun _ _ _ _ _ => pe_and (pe_cmpR op_eq (pv 3) (pv 4) (nomark _)) (pe_one (pe_cmpR op_ne (pv 3) (pe_glob (v := .int (-1)) (by rfl) n1 ⟨_, rfl⟩) (nomark _))))) pa_nil))), ?_⟩
    have hcut : cutV (one.map V.int) (some (d : Int)) none = (one.drop d).map V.int := by rw [cut_from, List.map_drop]
    refine ⟨.ref a, rfl, .int d, rfl, d, rfl, a, _, rfl, hA, ?_, fun c nc => ?_⟩
    · rintro ⟨z, _⟩
      rw [HT.sIx_nat, List.length_map] at z
      omega
    rw [hcut]
    have s1 : Same H (upd H c (.tup ((one.drop d).map V.int))) := same_new nc
    refine ⟨.ref b, rfl, c, b, _, _, rfl, .inr ⟨.of upd_same, Same.tup s1 hB, fun D hD => ?_⟩⟩
    have s2 : Same (upd H c (.tup ((one.drop d).map V.int))) (upd (upd H c (.tup ((one.drop d).map V.int))) D (.lst [])) := same_new hD
    have hc0 : (upd H c (.tup ((one.drop d).map V.int))) c = some (.tup ((one.drop d).map V.int)) := upd_same
    refine lc_it (walk_zipT (xs := (one.drop d).map V.int) (ys := other.map V.int) (n := min (one.drop d).length other.length) (by rw [List.length_map, List.length_map]))
      (fun i H' => Same (upd H c (.tup ((one.drop d).map V.int))) H' ∧ H' D = some (.lst ((hitsTo one other d i).map V.bl))) ⟨s2, upd_same⟩
      (fun i H' _ h => ⟨.of (h.1 _ _ hc0), Same.tup (s1.trans h.1) hB⟩) (fun i x H' H'' hi h hY => ?_) (fun H' h => ?_)
    · obtain ⟨T, x1, x2, rfl, nT, rfl, f1, f2⟩ := hY
      dsimp only at f1 f2
      rw [List.getElem?_map] at f1 f2
      obtain ⟨z1, hz1, rfl⟩ := Option.map_eq_some_iff.mp f1
      obtain ⟨z2, hz2, rfl⟩ := Option.map_eq_some_iff.mp f2
      have nTD : D ≠ T := ne_of_none h.2 nT
      refine ⟨T, _, rfl, .of upd_same, rfl, _, _, rfl, _, _, rfl, rfl, rfl, ?_⟩
      have fin : ∀ bb : Bool, bb = (z1 == z2 && z1 != -1) → ∃ acc, (upd H' T (.tup [V.int z1, V.int z2])) D = some (.lst acc) ∧ acc.length < sizeLine ∧
          (Same (upd H c (.tup ((one.drop d).map V.int))) (upd (upd H' T (.tup [V.int z1, V.int z2])) D (.lst (acc ++ [V.bl bb]))) ∧ (upd (upd H' T (.tup [V.int z1, V.int z2])) D (.lst (acc ++ [V.bl bb]))) D = some (.lst ((hitsTo one other d (i + 1)).map V.bl))) := by
        rintro bb rfl
        refine ⟨_, by rw [upd_ne nTD]; exact h.2, ?_, fun y o e => ?_, ?_⟩
        · rw [List.length_map]
          have := hits_len one other d i
          exact small1000 (by rw [List.length_drop] at hi; omega)
        · rw [upd_ne (ne_of_none e hD)]
          exact same_new nT _ _ (h.1 _ _ e)
        · rw [upd_same, hits_succ hz1 hz2, List.map_append]
          rfl
      refine ⟨.int z1, rfl, .int z2, rfl, rfl, ?_⟩
      by_cases hz : z1 = z2
      · subst hz
        rw [decide_eq_true (rfl : V.int z1 = V.int z1)]
        refine ⟨true, rfl, iteT ⟨.int z1, rfl, rfl, ?_⟩⟩
        refine fin _ ?_
        by_cases hn : z1 = -1
        · subst hn; rfl
        · rw [decide_eq_false fun z => hn (V.int.inj z)]
          simp [hn]
      · rw [decide_eq_false fun z => hz (V.int.inj z)]
        refine ⟨false, rfl, iteF (fin _ ?_)⟩
        simp [hz]
    · refine ⟨D, _, rfl, .of h.2, ?_⟩
      rw [hits_any]
      exact q H' (s1.trans h.1)
/-! ### bars -/
def spBars (K : PySem.W.Frag) : Sp := fun vs H Q _ => ∃ (a b : Addr) (one other : List Int), vs = [.ref a, .ref b] ∧ SqT K H a (one.map V.int) ∧ SqT K H b (other.map V.int) ∧ IsWork one ∧ IsWork other ∧
  ∀ H' p, Same H H' → H p = none → H' p = some (.tup (nV (barsN one other))) → Q (.ref p) H'
theorem ok_bars {f f1 f2 : Addr} {fd fd1 fd2 : FuncData} {k : Nat} (F : Fun K "bars" "bars" s_bars f fd)
    (G1 : FnOk P w K mg base CX0 k f1 fd1 ["thing"] (spReq K)) (kp1 : PySem.W.keepIn K (.ref f1) = true) (b1 : Binds K fd1 ["thing"] []) (g1 : mg "require_work" = some (.ref f1))
    (G2 : FnOk P w K mg base CX0 k f2 fd2 ["one", "other", "distance"] (spClash K)) (kp2 : PySem.W.keepIn K (.ref f2) = true) (b2 : Binds K fd2 ["one", "other", "distance"] []) (g2 : mg "_clashes_behind" = some (.ref f2))
    (m1 : mg "tuple" = none) (m2 : mg "range" = none) (m3 : mg "len" = none) :
    FnOk P w K mg base CX0 (k + 1) f fd ["one", "other"] (spBars K) := by
  refine F.ok sc_bars (fun vs H Q E h => ?_) (fun cdv A outer s H vs Q E hr h => ?_)
  · obtain ⟨a, b, o1, o2, rfl, _⟩ := h; rfl
  · obtain ⟨a, b, one, other, rfl, hA, hB, w1, w2, q⟩ := h
    refine ⟨_, pss_cons (ps_expr (pe_call G1 hr (by rfl) g1 kp1 b1 .nil pass0 (pa_cons (pv 0) pa_nil))) (pss_cons (ps_expr (pe_call G1 hr (by rfl) g1 kp1 b1 .nil pass0 (pa_cons (pv 1) pa_nil)))
      (pss_one (ps_ret (pe_callTy call_tuple_of (by rfl) m1 (by decide +kernel) (pa_cons
        (pe_lc (own := [("distance", 2)]) (g := gName 2) rfl sc_bars.nd (pi_range2 (by rfl) m2 (pa_cons pe_int (pa_cons (pe_callB call_len_seq (by rfl) m3 PySem.boot_len (pa_cons (pv 0) pa_nil)) pa_nil)))
          (blkOk_by (N := ["one", "other", "distance"]) (sc := defScope s_bars) (by decide +kernel))
          (fun _ _ _ _ _ => pg_name (i := 2) sc_bars.nd rfl (Or.inl rfl))
          (fun _ _ _ _ _ => pts_one (pt_val (pe_call G2 hr (by rfl) g2 kp2 b2 .nil pass0 (pa_cons (pv 0) (pa_cons (pv 1) (pa_cons (pv 2) pa_nil))))))
          (fun _ _ _ _ _ => pv 2)) pa_nil))))), ?_⟩
    refine ⟨.ref a, rfl, a, one, rfl, hA, w1, fun H1 e1 => ?_⟩
    refine ⟨.ref b, rfl, b, other, rfl, Same.tup e1 hB, w2, fun H2 e2 => ?_⟩
    have e12 : Same H H2 := e1.trans e2
    have hA2 := Same.tup e12 hA
    have hB2 := Same.tup e12 hB
    refine ⟨.ref a, rfl, a, one.map V.int, rfl, .inr hA2, 1, _, rfl, ?_, fun D hD => ?_⟩
    · rw [List.length_map]
      have := w1.most
      omega
    have en : (((one.map V.int).length : Int) - 1).toNat = one.length - 1 := by rw [List.length_map]; omega
    rw [en]
    refine lc_range (lo := 1) (n := one.length - 1) (fun i H' => Same H2 H' ∧ H' D = some (.lst (nV (barsTo one other i)))) ⟨same_new hD, upd_same⟩ (fun i H' hi h => ?_) (fun H' h => ?_)
    · refine ⟨rfl, ?_⟩
      have ed : ((1 : Int) + (i : Int)) = ((1 + i : Nat) : Int) := by omega
      refine ⟨.ref a, rfl, .ref b, rfl, .int (1 + i), rfl, a, b, one, other, 1 + i, by rw [ed]; rfl, Same.tup h.1 hA2, Same.tup h.1 hB2, w1.most, by omega, by omega, fun H'' e3 => ?_⟩
      refine ⟨_, rfl, ?_⟩
      have hD3 := e3 _ _ h.2
      cases hc : clashB one other (1 + i) with
      | true =>
        refine iteT ⟨_, rfl, _, hD3, ?_, fun y o e => ?_, ?_⟩
        · rw [List.length_map]
          have := barsTo_len one other i
          have := w1.most
          exact small1000 (by omega)
        · rw [upd_ne (ne_of_none e hD)]
          exact e3 _ _ (h.1 _ _ e)
        · rw [upd_same, barsTo_yes hc]
      | false =>
        refine iteF ⟨h.1.trans e3, ?_⟩
        rw [barsTo_no hc]
        exact hD3
    · refine ⟨D, _, rfl, .inl ⟨.of h.2, fun l hl => ?_⟩⟩
      have e3 : Same H H' := e12.trans h.1
      exact q _ l (e3.trans (same_new hl)) (Same.free e3 hl) upd_same
end
end Sg
set_option Elab.async false
set_option linter.all false
set_option maxRecDepth 100000
set_option maxHeartbeats 4000000
namespace Sg
open PySem PySem.Spec PyProof.Rows L2
section
variable {P : Program} {w : World} {K : PySem.W.Frag} {mg : Str → Option Value} {base : Heap}
/-! ### len -/
def spLen (K : PySem.W.Frag) (C : Addr) : Sp := fun vs H Q _ => ∃ (a : Addr) (ws : List (List Int)), vs = [.ref a] ∧ LineAt K C H a ws ∧ Q (.int (ws.length : Nat)) H
theorem ok_len {f C : Addr} {fd : FuncData} {k : Nat} (F : Fun K "__len__" "Line.__len__" s_Line_len f fd) (T : LC K mg C) (m1 : mg "len" = none) :
    FnOk P w K mg base CX0 (k + 1) f fd ["self"] (spLen K C) := by
  refine F.ok sc_Line_len (fun vs H Q E h => ?_) (fun cdv A outer s H vs Q E hr h => ?_)
  · obtain ⟨a, ws, rfl, _⟩ := h; rfl
  · obtain ⟨a, ws, rfl, ⟨dx, t, b, r, h1, h2, h3, h4, h5⟩, q⟩ := h
    refine ⟨_, pss_one (ps_ret (pe_callB call_len_seq (by rfl) m1 PySem.boot_len (pa_cons (pe_fld (pv 0) rfl) pa_nil))), ?_⟩
    obtain ⟨t', xs, e, hS, hT⟩ := h2.toTup
    cases e
    refine ⟨.ref a, rfl, a, C, dx, _, _, rfl, h1, T.cl, T.nW, lf_works _ _ _, t, xs, rfl, .inr hS, ?_⟩
    have e := hT.len
    rw [List.length_map] at e
    rw [e]
    exact q
/-! ### is_kind -/
def spIsKind (K : PySem.W.Frag) (C : Addr) : Sp := fun vs H Q _ => ∃ (a : Addr) (ws : List (List Int)) (i : Int), vs = [.ref a, .int i] ∧ LineAt K C H a ws ∧ Q (.bl (decide (0 ≤ i) && decide (i ≤ (ws.length : Nat) - 1))) H
theorem ok_is_kind {f f1 f2 C : Addr} {fd fd1 fd2 : FuncData} {k : Nat} (F : Fun K "is_kind" "is_kind" s_is_kind f fd) (T : LC K mg C) (m1 : mg "len" = none)
    (G1 : FnOk P w K mg base CX0 k f1 fd1 ["thing", "least", "most"] spIsBetween) (kp1 : PySem.W.keepIn K (.ref f1) = true) (b1 : Binds K fd1 ["thing", "least", "most"] []) (g1 : mg "is_between" = some (.ref f1))
    (G2 : FnOk P w K mg base CX0 k f2 fd2 ["self"] (spLen K C)) (b2 : Binds K fd2 ["self"] []) (s2 : PySem.W.findIn K (.ref C) "__len__" = some (some (.ref f2))) (i2 : PySem.W.isFn K (.ref f2) = true) :
    FnOk P w K mg base CX0 (k + 2) f fd ["line", "thing"] (spIsKind K C) := by
  refine F.ok sc_is_kind (fun vs H Q E h => ?_) (fun cdv A outer s H vs Q E hr h => ?_)
  · obtain ⟨a, ws, i, rfl, _⟩ := h; rfl
  · obtain ⟨a, ws, i, rfl, hL, q⟩ := h
    refine ⟨_, pss_one (ps_ret (pe_call G1 (hr.mono (Nat.le_succ k)) (by rfl) g1 kp1 b1 .nil pass0 (pa_cons (pv 1) (pa_cons pe_int (pa_cons (pe_op op_sub (pe_callB (call_lenO G2 hr b2 s2 i2) (by rfl) m1 PySem.boot_len (pa_cons (pv 0) pa_nil)) pe_int) pa_nil))))), ?_⟩
    refine ⟨.int i, rfl, .ref a, rfl, a, rfl, hL.ins, a, ws, rfl, hL, ws.length, rfl, ?_, _, 1, rfl, rfl, i, 0, _, rfl, q⟩
    have := hL.good.few
    omega
def spReqKind (K : PySem.W.Frag) (C : Addr) : Sp := fun vs H Q _ => ∃ (a : Addr) (ws : List (List Int)) (i : Nat), vs = [.ref a, .int i] ∧ LineAt K C H a ws ∧ i < ws.length ∧ Q .non H
theorem ok_require_kind {f f1 C : Addr} {fd fd1 : FuncData} {k : Nat} (F : Fun K "require_kind" "require_kind" s_require_kind f fd)
    (G1 : FnOk P w K mg base CX0 k f1 fd1 ["line", "thing"] (spIsKind K C)) (kp1 : PySem.W.keepIn K (.ref f1) = true) (b1 : Binds K fd1 ["line", "thing"] []) (g1 : mg "is_kind" = some (.ref f1)) :
    FnOk P w K mg base CX0 (k + 1) f fd ["line", "thing"] (spReqKind K C) := by
  refine F.ok sc_require_kind (fun vs H Q E h => ?_) (fun cdv A outer s H vs Q E hr h => ?_)
  · obtain ⟨a, ws, i, rfl, _⟩ := h; rfl
  · obtain ⟨a, ws, i, rfl, hL, hi, q⟩ := h
    refine ⟨_, pss_one (ps_if (pt_not (pt_val (pe_call G1 hr (by rfl) g1 kp1 b1 .nil pass0 (pa_cons (pv 0) (pa_cons (pv 1) pa_nil))))) (pss_one ps_never) pss_nil), ?_⟩
    refine ⟨.ref a, rfl, .int i, rfl, a, ws, i, rfl, hL, ?_⟩
    rw [decide_eq_true (show (0 : Int) ≤ i by omega), decide_eq_true (show (i : Int) ≤ (ws.length : Nat) - 1 by omega)]
    exact ⟨true, rfl, iteF q⟩
/-! ### _bars_of_all -/
def spBarsAll (K : PySem.W.Frag) : Sp := fun vs H Q _ => ∃ (a : Addr) (ws : List (List Int)), vs = [.ref a] ∧ Tp K H (.ref a) (.tuple (tDs ws)) ∧ GoodL ws ∧
  ∀ H' p, Same H H' → Tp K H' (.ref p) (.tuple (barD ws)) → Q (.ref p) H'
theorem ok_bars_of_all {f f1 : Addr} {fd fd1 : FuncData} {k : Nat} (F : Fun K "_bars_of_all" "_bars_of_all" s_bars_of_all f fd) (m1 : mg "tuple" = none)
    (G1 : FnOk P w K mg base CX0 k f1 fd1 ["one", "other"] (spBars K)) (kp1 : PySem.W.keepIn K (.ref f1) = true) (b1 : Binds K fd1 ["one", "other"] []) (g1 : mg "bars" = some (.ref f1)) :
    FnOk P w K mg base CX0 (k + 1) f fd ["works"] (spBarsAll K) := by
  refine F.ok sc_bars_of_all (fun vs H Q E h => ?_) (fun cdv A outer s H vs Q E hr h => ?_)
  · obtain ⟨a, ws, rfl, _⟩ := h; rfl
  · obtain ⟨a, ws, rfl, hW, hg, q⟩ := h
    refine ⟨_, pss_one (ps_ret (pe_callTy call_tuple_of (by rfl) m1 (by decide +kernel) (pa_cons
      (pe_lc (own := [("one", 2)]) (g := gName 2) (tt := tYes) rfl sc_bars_of_all.nd (pi_tup (pv 0)) (blkOk_by (N := ["works", "other", "one"]) (sc := defScope s_bars_of_all) (by decide +kernel))
        (fun _ _ _ _ _ => pg_name (i := 2) sc_bars_of_all.nd rfl (Or.inr rfl)) (fun _ _ _ _ _ => pts_nil)
        (fun s' H' C' cl fp => pe_callTy (call_tuple_ofK (K := K) rfl) (by rfl) m1 (by decide +kernel) (pa_cons
          (pe_lc (own := [("other", 1)]) (g := gName 1) (tt := tYes) rfl sc_bars_of_all.nd (pi_tupK (K := K) rfl (pv 0)) (blkOk_by (by rfl))
            (fun _ _ _ _ _ => pg_name (i := 1) sc_bars_of_all.nd rfl (Or.inl rfl)) (fun _ _ _ _ _ => pts_nil)
            (fun _ _ _ _ _ => pe_call G1 hr (by rfl) g1 kp1 b1 .nil pass0 (pa_cons (pv 2) (pa_cons (pv 1) pa_nil)))) pa_nil))) pa_nil))), ?_⟩
    obtain ⟨a', xs, ea, hS, hT⟩ := hW.toTup
    cases ea
    have hlen := hT.len
    rw [List.length_map] at hlen
    refine ⟨.ref a, rfl, a, rfl, ⟨_, hS⟩, fun D hD => ?_⟩
    refine lc_tup (xs := xs) (fun i H' => Grow K H D (barD ws) i H') (.zero hD) (fun i H' _ h => Same.tup h.1 hS) (fun i x H' hx h => ?_) (fun H' h => ?_)
    · obtain ⟨o, c1, ho, rfl, hc1⟩ := hT.works hx
      have fewr : (ws.map (cellD o)).length ≤ 1000 := by
        have := hg.few
        rw [List.length_map]
        omega
      refine ⟨rfl, ?_⟩
      refine ⟨.ref a, rfl, a, rfl, ⟨_, Same.tup h.1 hS⟩, fun D2 hD2 => ?_⟩
      refine lc_tup (xs := xs) (fun j H2 => Grow K H' D2 (ws.map (cellD o)) j H2) (.zero hD2) (fun i H2 _ h2 => Same.tup (h.1.trans h2.1) hS) (fun j y H2 hy h2 => ?_) (fun H2 h2 => ?_)
      · obtain ⟨o2, c2, ho2, rfl, hc2⟩ := hT.works hy
        refine ⟨rfl, .ref c1, rfl, .ref c2, rfl, c1, c2, o, o2, rfl, Same.tup (h.1.trans h2.1) hc1, Same.tup (h.1.trans h2.1) hc2, hg.mem ho, hg.mem ho2, fun H3 p e3 np hp => ?_⟩
        refine h2.next hD2 fewr e3 (by rw [List.getElem?_map, ho2]; rfl) (.ofInts ?_)
        rw [← nV_eq]
        exact .of hp
      · obtain ⟨e2, acc, g1, g2⟩ := h2.done (by rw [List.length_map, hlen])
        refine ⟨D2, acc, rfl, .inl ⟨.of g1, fun l nl => ?_⟩⟩
        exact h.next hD hg.lt (e2.trans (same_new nl)) (by rw [List.getElem?_map, ho]; rfl) (.new nl g2)
    · obtain ⟨e2, acc, g1, g2⟩ := h.done (by rw [List.length_map, hlen])
      exact ⟨D, acc, rfl, .inl ⟨.of g1, fun l nl => q _ l (e2.trans (same_new nl)) (.new nl g2)⟩⟩
end
end Sg
set_option Elab.async false
set_option linter.all false
set_option maxRecDepth 100000
set_option maxHeartbeats 4000000
namespace Sg
open PySem PySem.Spec PyProof.Rows L2 StX
/-! ## the bars of a line, flat -/
theorem flatL_of {K : PySem.W.Frag} {H : Hp} {a : List Int} : ∀ {cells : List V} {ws : List (List Int)}, TpAll K H cells (ws.map (cellD a)) → FlatL K H cells ((rowB a ws).map V.int)
  | _, [], .no => .nil
  | _, b :: ws, .on t r => by
    obtain ⟨c, rfl, hs⟩ := t.toInts
    show FlatL K H _ ((nI (barsN a b) ++ rowB a ws).map V.int)
    rw [List.map_append]
    exact .cons hs (flatL_of r)
theorem flatR_of {K : PySem.W.Frag} {H : Hp} {vs : List (List Int)} : ∀ {rows : List V} {ws : List (List Int)}, TpAll K H rows (ws.map fun a => rowD a vs) → FlatR K H rows ((allB ws vs).map V.int)
  | _, [], .no => .nil
  | _, b :: ws, .on t r => by
    obtain ⟨c, xs, rfl, hs, ht⟩ := t.toTup
    show FlatR K H _ ((rowB b vs ++ allB ws vs).map V.int)
    rw [List.map_append]
    exact .cons hs (flatL_of ht) (flatR_of r)
theorem bars_le {a b : List Int} (h : IsWork a) : (nI (barsN a b)).length ≤ 60 := by
  rw [List.length_map]
  have := h.most
  exact Nat.le_trans (barsTo_len a b (a.length - 1)) (by omega)
theorem rowB_len {a : List Int} (h : IsWork a) : ∀ (ws : List (List Int)), (rowB a ws).length ≤ 60 * ws.length
  | [] => Nat.le_refl _
  | b :: ws => by
    show (nI (barsN a b) ++ rowB a ws).length ≤ _
    rw [List.length_append, List.length_cons]
    have := bars_le h (b := b)
    have := rowB_len h ws
    omega
theorem allB_len {vs : List (List Int)} : ∀ (ws : List (List Int)), (∀ w ∈ ws, IsWork w) → (allB ws vs).length ≤ 60 * vs.length * ws.length
  | [], _ => Nat.zero_le _
  | b :: ws, h => by
    show (rowB b vs ++ allB ws vs).length ≤ _
    rw [List.length_append, List.length_cons, Nat.mul_succ]
    have := rowB_len (h b List.mem_cons_self) vs
    have := allB_len (vs := vs) ws fun w hw => h w (List.mem_cons_of_mem _ hw)
    omega
theorem mem_allB {ws vs : List (List Int)} {x : Int} : x ∈ allB ws vs ↔ ∃ a ∈ ws, ∃ b ∈ vs, x ∈ nI (barsN a b) := by
  unfold allB rowB
  simp only [List.mem_flatMap]
theorem bar_pos {a b : List Int} {x : Int} (h : x ∈ nI (barsN a b)) : 1 ≤ x := by
  obtain ⟨d, hd, rfl⟩ := List.mem_map.mp h
  have := (List.mem_range'_1.mp (List.mem_filter.mp hd).1).1
  omega
theorem top_of {l : List Int} {m : Int} (hp : ∀ x ∈ l, 1 ≤ x) (h0 : l = [] → m = 0) (h1 : l ≠ [] → m ∈ l ∧ ∀ x ∈ l, x ≤ m) : Top l m := by
  by_cases z : l = []
  · have e := h0 z
    subst z
    exact ⟨by omega, fun x hx => (nomatch hx), .inl e⟩
  · obtain ⟨g1, g2⟩ := h1 z
    exact ⟨by have := hp _ g1; omega, g2, .inr g1⟩
section
variable {P : Program} {w : World} {K : PySem.W.Frag} {mg : Str → Option Value} {base : Heap}
/-! ### __init__ -/
def spInit (K : PySem.W.Frag) (C : Addr) : Sp := fun vs H Q _ => ∃ (x dx : Addr) (rest : List V) (ws : List (List Int)), vs = .ref x :: rest ∧ H x = some (.ins C dx []) ∧ TpAll K H rest (tDs ws) ∧ GoodL ws ∧
  ∀ H', (∀ b o, H b = some o → b ≠ x → H' b = some o) → LineAt K C H' x ws → Q .non H'
theorem ok_init {f f1 f2 C : Addr} {fd fd1 fd2 : FuncData} {k : Nat} (F : Fun K "__init__" "Line.__init__" s_Line_init f fd) (T : LC K mg C) (hM : ∃ t, mg "MOST_WORKS" = some (.int 3 t))
    (G1 : FnOk P w K mg base CX0 k f1 fd1 ["thing"] (spIsWork K)) (kp1 : PySem.W.keepIn K (.ref f1) = true) (b1 : Binds K fd1 ["thing"] []) (g1 : mg "is_work" = some (.ref f1))
    (G2 : FnOk P w K mg base CX0 k f2 fd2 ["works"] (spBarsAll K)) (kp2 : PySem.W.keepIn K (.ref f2) = true) (b2 : Binds K fd2 ["works"] []) (g2 : mg "_bars_of_all" = some (.ref f2))
    (m1 : mg "all" = none) (m2 : mg "len" = none) (m3 : mg "max" = none) : FnR P w K mg base CX0 (k + 1) f (spInit K C) := by
  obtain ⟨tM, nM⟩ := hM
  obtain ⟨oc, od, kV, doc, pm, an, cdv, ct, osl, rfl, lk, hcd⟩ := F.ex
  have R := fn_star (CX := CX0) (P := P) (w := w) (mg := mg) (base := base) (k := k) (ps := ["self"]) (pv := "works") (sp := fun vs H Q _ => ∃ (x dx p : Addr) (rest : List V) (ws : List (List Int)), vs = [.ref x, .ref p] ∧ H x = some (.ins C dx []) ∧ H p = some (.tup rest) ∧ TpAll K H rest (tDs ws) ∧ GoodL ws ∧
    ∀ H', (∀ b o, H b = some o → b ≠ x → H' b = some o) → LineAt K C H' x ws → Q .non H') lk hcd sc_Line_init cxUp_none (bind_star1 (B := fun us => bindArgs (PySem.W.fnOf "__init__" "Line.__init__" (defArgs s_Line_init) (defBody s_Line_init) (defScope s_Line_init) .none kV doc pm an cdv ct) ⟨us, []⟩) (fun _ => rfl) (fun _ _ _ => rfl)) ?_
  · refine R.imp fun vs H Q E h => ?_
    obtain ⟨x, dx, rest, ws, rfl, hx, hT, hg, q⟩ := h
    have hl := hT.len
    have := hg.few
    rw [List.length_map] at hl
    refine ⟨[.ref x], rest, rfl, rfl, Nat.le_of_lt (small1000 (by omega)), fun p np => ⟨x, dx, p, rest, ws, rfl, same_new np _ _ hx, upd_same, hT.stay (.of (same_new np)), hg, fun H' hk hL => q H' (fun b o e hb => hk b o (same_new np _ _ e) hb) hL⟩⟩
  · intro A outer s H vs Q E hr h
    obtain ⟨x, dx, p, rest, ws, rfl, hx, hp, hT, hg, q⟩ := h
    refine ⟨_, pss_cons (ps_if (PW.pt (pw_or (pt_not (pt_truth (pv 1) (fun _ => rfl))) (pw_or1 (pt_not (pt_val (pe_callB (cr_all rfl) (by rfl) m1 (by decide +kernel) (pa_cons
        (pe_lc (own := [("work", 2)]) (g := gName 2) (tt := tYes) rfl sc_Line_init.nd (pi_tup (pv 1)) (blkOk_by (N := ["self", "works", "work", "row", "pair", "bar"]) (sc := defScope s_Line_init) (by decide +kernel))
          (fun _ _ _ _ _ => pg_name (i := 2) sc_Line_init.nd rfl (Or.inl rfl)) (fun _ _ _ _ _ => pts_nil)
          (fun _ _ _ _ _ => pe_call G1 hr (by rfl) g1 kp1 b1 .nil pass0 (pa_cons (pv 2) pa_nil))) pa_nil))))))) (pss_one ps_never) pss_nil)
      (pss_cons (ps_if (pt_cmpR op_gt (pe_callB call_len_seq (by rfl) m2 PySem.boot_len (pa_cons (pv 1) pa_nil)) (pe_glob (v := .int 3) (by rfl) nM ⟨_, rfl⟩) (nomark _)) (pss_one ps_never) pss_nil)
      (pss_cons (ps_fld (pv 0) (pv 1) rfl)
      (pss_cons (ps_fld (pv 0) (pe_call G2 hr (by rfl) g2 kp2 b2 .nil pass0 (pa_cons (pv 1) pa_nil)) rfl)
      (pss_one (ps_fld (pv 0) (pe_callBK (cr_maxD rfl hr) (by rfl) m3 (by decide +kernel) (pa_cons (pe_flat (k1 := 3) (k2 := 4) (k3 := 5) (own := [("row", 3), ("pair", 4), ("bar", 5)]) rfl sc_Line_init.nd (pe_fld (pv 0) rfl)
          (blkOk_by (N := ["self", "works", "work", "row", "pair", "bar"]) (sc := defScope s_Line_init) (by decide +kernel)) rfl rfl rfl (fun _ _ => rfl) (fun _ _ => rfl) (fun _ _ => rfl)) pa_nil) (pk_cons pe_int pk_nil)) rfl))))), ?_⟩
    have hl := hT.len
    rw [List.length_map] at hl
    have hp' : SqT K H p rest := .of hp
    have hemp : (!rest.isEmpty) = true := by
      have := hg.least
      cases rest with
      | nil => rw [← hl] at this; exact absurd this (by decide)
      | cons => rfl
    refine ⟨.ref p, rfl, !rest.isEmpty, .inr (.inl ⟨rest, hp', rfl⟩), ?_⟩
    rw [hemp]
    refine iteF ?_
    refine ⟨.ref p, rfl, p, rfl, ⟨_, hp'⟩, fun D hD => ?_⟩
    refine lc_tup (xs := rest) (fun i H' => Same H H' ∧ H' D = some (.lst (((List.replicate i true)).map V.bl))) ⟨same_new hD, upd_same⟩ (fun i H' _ h => Same.tup h.1 hp') (fun i y H' hy h => ?_) (fun H' h => ?_)
    · obtain ⟨w1, c, hw, rfl, hc⟩ := hT.works hy
      refine ⟨rfl, .ref c, rfl, c, w1, rfl, Same.tup h.1 hc, hg.mem hw, fun H2 e2 => ?_⟩
      refine ⟨_, e2 _ _ h.2, ?_, fun b o e => ?_, ?_⟩
      · rw [List.length_map, List.length_replicate]
        have := hg.few
        have := (List.getElem?_eq_some_iff.mp hw).1
        exact small1000 (by omega)
      · rw [upd_ne (ne_of_none e hD)]
        exact e2 _ _ (h.1 _ _ e)
      · rw [upd_same, List.replicate_succ', List.map_append]
        rfl
    · have hall : (List.replicate rest.length true).all id = true := by simp
      refine ⟨D, _, rfl, .of h.2, true, congrArg V.bl hall, iteF ?_⟩
      have hpH : SqT K H' p rest := Same.tup h.1 hp'
      refine ⟨.ref p, rfl, p, rest, rfl, .inr hpH, _, 3, rfl, rfl, _, rfl, ?_⟩
      have c3 : decide ((((rest.length : Nat) : Int)) > 3) = false := decide_eq_false (by have := hg.few; omega)
      rw [c3]
      refine iteF ?_
      have hx1 := h.1 _ _ hx
      refine ⟨.ref p, rfl, .ref x, rfl, x, C, dx, [], rfl, hx1, T.cl, T.nW, (by show 0 < 1000; decide), ?_⟩
      have hW1 : Tp K H' (.ref p) (.tuple (tDs ws)) := .tu hpH (hT.stay (.of h.1))
      have hW2 := hW1.stayT (tu_ins hx1 (o := .ins C dx (putF "_works" (.ref p) [])))
      generalize hH2 : upd H' x (.ins C dx (putF "_works" (.ref p) [])) = H2 at hW2 ⊢
      have hx2 : H2 x = some (.ins C dx (putF "_works" (.ref p) [])) := by rw [← hH2]; exact upd_same
      refine ⟨.ref p, rfl, p, ws, rfl, hW2, hg, fun H3 b e3 hb => ?_⟩
      have hx3 := e3 _ _ hx2
      refine ⟨.ref x, rfl, x, C, dx, _, rfl, hx3, T.cl, T.nB, (by show 1 < 1000; decide), ?_⟩
      have hW4 := (hW2.stay (.of e3)).stayT (tu_ins hx3 (o := .ins C dx (putF "_bars" (.ref b) (putF "_works" (.ref p) []))))
      have hB4 := hb.stayT (tu_ins hx3 (o := .ins C dx (putF "_bars" (.ref b) (putF "_works" (.ref p) []))))
      generalize hH4 : upd H3 x (.ins C dx (putF "_bars" (.ref b) (putF "_works" (.ref p) []))) = H4 at hW4 hB4 ⊢
      have hx4 : H4 x = some (.ins C dx (putF "_bars" (.ref b) (putF "_works" (.ref p) []))) := by rw [← hH4]; exact upd_same
      obtain ⟨b', rows, eb, hbS, hbT⟩ := hB4.toTup
      cases eb
      have lb : (putF "_bars" (.ref b) (putF "_works" (.ref p) [])).lookup ("_bars" : Str) = some (.ref b) := by rw [lookup_putF, if_pos rfl]
      have lenB : ((allB ws ws).map V.int).length ≤ 1000000 := by
        rw [List.length_map]
        have z := allB_len (vs := ws) ws hg.work
        have := hg.few
        have z2 : 60 * ws.length * ws.length ≤ 60 * 3 * 3 := Nat.mul_le_mul (Nat.mul_le_mul (Nat.le_refl _) this) this
        omega
      refine ⟨.ref x, rfl, x, C, dx, _, _, rfl, hx4, T.cl, T.nB, lb, b, rows, _, rfl, hbS, flatR_of hbT, lenB, fun D2 nD2 => ?_⟩
      have s5 : Same H4 (upd H4 D2 (.lst ((allB ws ws).map V.int))) := same_new nD2
      refine ⟨D2, allB ws ws, 0, rfl, rfl, .of upd_same, fun m h0 h1 => ?_⟩
      have hx5 := s5 _ _ hx4
      refine ⟨.ref x, rfl, x, C, dx, _, rfl, hx5, T.cl, T.nR, (by show 2 < 1000; decide), ?_⟩
      have hW6 := (hW4.stay (.of s5)).stayT (tu_ins hx5 (o := .ins C dx (lf p b m)))
      have hB6 := (hB4.stay (.of s5)).stayT (tu_ins hx5 (o := .ins C dx (lf p b m)))
      refine q _ (fun c o e hc => ?_) ⟨dx, p, b, m, upd_same, hW6, hB6, top_of (fun y hy => ?_) h0 h1, hg⟩
      · rw [upd_ne hc]
        refine s5 _ _ ?_
        rw [← hH4, upd_ne hc]
        refine e3 _ _ ?_
        rw [← hH2, upd_ne hc]
        exact h.1 _ _ e
      · obtain ⟨_, _, _, _, z⟩ := mem_allB.mp hy
        exact bar_pos z
end
end Sg
set_option Elab.async false
set_option linter.all false
set_option maxRecDepth 100000
set_option maxHeartbeats 4000000
namespace Sg
open PySem PySem.Spec PyProof.Rows L2 StX
/-! ## a Line is made -/
theorem make_line {K : PySem.W.Frag} {C : Addr} {H1 : Hp} {vs : List V} {ws : List (List Int)} {Q : VK} (hT : TpAll K H1 vs (tDs ws)) (hg : GoodL ws)
    (q : ∀ H' a, Same H1 H' → H1 a = none → LineAt K C H' a ws → Q (.ref a) H') :
    ∀ x dx, H1 x = none → H1 dx = none → dx ≠ x → spInit K C (V.ref x :: vs) (upd (upd H1 dx (.own x)) x (.ins C dx [])) (fun v H2 => v = .non ∧ Q (.ref x) H2) E0 := by
  intro x dx nx ndx ne
  have s0 : Same H1 (upd (upd H1 dx (.own x)) x (.ins C dx [])) := fun b o e => by
    rw [upd_ne (ne_of_none e nx), upd_ne (ne_of_none e ndx)]
    exact e
  exact ⟨x, dx, vs, ws, rfl, upd_same, hT.stay (.of s0), hg, fun H' hk hL => ⟨rfl, q H' x (fun b o e => hk b o (s0 b o e) (ne_of_none e nx)) nx hL⟩⟩
/-- C(*e) -/
theorem pe_makeS {X : Cx} {CX : CXT} {k : Nat} {f C : Addr} {sp : Sp} {E : XK} {x : Str} {e : Expr} {te : TE} {p pos sp_ : Pos} (M : Mk X.K C f) (F : FnR X.prog X.w X.K X.mg X.base CX k f sp) (hr : Room (k + 1) X.A)
    (hg : Gl X x) (hm : X.mg x = some (.ref C)) (hx : Passes CX X E) (he : PE X e te) (hd : (x == ("__debug__" : Str)) = false := by decide) (hst : starEach [.Starred e sp_] X.env = [(true, eval e X.env)] := by rfl) :
    PE X (.Call (.Name x p) [.Starred e sp_] [] pos) (fun σ H Q => te σ H fun y H1 => ∃ a xs, y = V.ref a ∧ (SqT X.K H1 a xs ∨ SqL X.K H1 a xs) ∧
      ∀ z dz, H1 z = none → H1 dz = none → dz ≠ z → sp (V.ref z :: xs) (upd (upd H1 dz (.own z)) z (.ins C dz [])) (fun v H2 => v = .non ∧ Q (.ref z) H2) E) := by
  refine ⟨fun pins s σ H Q I h => wpAny_Call_Name_kw (ld_glob I hg hm ?_ hd)⟩
  refine PySem.W.callWith_S (h₀ := X.base) I.ok.mod.kin M.kp (thn (he.run pins s σ H _ I h) fun v s1 ⟨y, H1, I1, ry, a, xs, ey, hxs, q⟩ => ?_) hst
  subst ey
  obtain rfl : v = Value.ref a := ry
  exact star_any I1 hxs fun us s2 I2 rv => ⟨I2.kIn, run_makeR M F hr hx I2 rv q⟩
theorem GoodL.back {ws : List (List Int)} (h : GoodL ws) : GoodL (ws.map List.reverse) := by
  refine ⟨by rw [List.length_map]; exact h.least, by rw [List.length_map]; exact h.few, fun w hw => ?_⟩
  obtain ⟨v, hv, rfl⟩ := List.mem_map.mp hw
  have i := h.work v hv
  refine ⟨by rw [List.length_reverse]; exact i.pos, by rw [List.length_reverse]; exact i.most, fun x hx => i.items x (List.mem_reverse.mp hx), fun x hx => ?_, fun x hx => ?_⟩
  · have := i.pos
    rw [List.getElem?_reverse (by omega)] at hx
    exact i.last x (by rw [← hx]; congr 1)
  · have := i.pos
    rw [List.length_reverse, List.getElem?_reverse (by omega)] at hx
    exact i.head x (by rw [← hx]; congr 1; omega)
theorem cut_upto (xs : List V) (d : Nat) : cutV xs none (some (d : Int)) = xs.take d := by
  unfold cutV
  rw [HT.sIx_nat, HT.sIx_none, List.drop_zero, Nat.sub_zero]
  rcases Nat.le_total d xs.length with h | h
  · rw [Nat.min_eq_left h]
  · rw [Nat.min_eq_right h, List.take_of_length_le h, List.take_length]
end Sg
set_option Elab.async false
set_option linter.all false
set_option maxRecDepth 100000
set_option maxHeartbeats 4000000
namespace Sg
open PySem PySem.Spec PyProof.Rows L2 StX
/-- what isinstance asks of the class -/
structure LI (K : PySem.W.Frag) (C : Addr) : Prop where
  ha : PySem.W.findIn K (.ref C) "__class__" = some (some (.builtin "object.__class__"))
  hn : PySem.W.specialIn K (.builtin "object.__class__") "__get__" = some (some (.builtin "getset_descriptor.__get__"))
  ht : PySem.W.takesIn K (.builtin "object.__class__") = some true
  hm : PySem.W.mroIn K C (.type "object") = some true
  kit : PySem.W.kitOne K (.ref C) (.ref C) = some true
section
variable {P : Program} {w : World} {K : PySem.W.Frag} {mg : Str → Option Value} {base : Heap}
theorem isLine {C a : Addr} {H : Hp} {ws : List (List Int)} (c : Cls K C) (T : LI K C) (h : LineAt K C H a ws) : TyX K H (.ref a) (.ref C) := by
  obtain ⟨dx, t, b, r, h1, _⟩ := h
  exact .base (.ins h1 c T.ha T.hn T.ht T.hm)
/-! ### line(one, other) -/
def spCall (K : PySem.W.Frag) (C : Addr) : Sp := fun vs H Q _ => ∃ (a : Addr) (ws : List (List Int)) (i j : Nat) (x y : List Int), vs = [.ref a, .int i, .int j] ∧ LineAt K C H a ws ∧ ws[i]? = some x ∧ ws[j]? = some y ∧
  ∀ c, SqT K H c (nV (barsN x y)) → Q (.ref c) H
theorem ok_call {f f1 C : Addr} {fd fd1 : FuncData} {k : Nat} (F : Fun K "__call__" "Line.__call__" s_Line_call f fd) (T : LC K mg C)
    (G1 : FnOk P w K mg base CX0 k f1 fd1 ["line", "thing"] (spReqKind K C)) (kp1 : PySem.W.keepIn K (.ref f1) = true) (b1 : Binds K fd1 ["line", "thing"] []) (g1 : mg "require_kind" = some (.ref f1)) :
    FnOk P w K mg base CX0 (k + 1) f fd ["self", "one", "other"] (spCall K C) := by
  refine F.ok sc_Line_call (fun vs H Q E h => ?_) (fun cdv A outer s H vs Q E hr h => ?_)
  · obtain ⟨a, ws, i, j, x, y, rfl, _⟩ := h; rfl
  · obtain ⟨a, ws, i, j, x, y, rfl, hL, hx, hy, q⟩ := h
    refine ⟨_, pss_cons (ps_expr (pe_call G1 hr (by rfl) g1 kp1 b1 .nil pass0 (pa_cons (pv 0) (pa_cons (pv 1) pa_nil))))
      (pss_cons (ps_expr (pe_call G1 hr (by rfl) g1 kp1 b1 .nil pass0 (pa_cons (pv 0) (pa_cons (pv 2) pa_nil))))
      (pss_one (ps_ret (pe_ix ix_tup (pe_ix ix_tup (pe_fld (pv 0) rfl) (pv 1) (fun _ _ => rfl)) (pv 2) (fun _ _ => rfl))))), ?_⟩
    have hi := (List.getElem?_eq_some_iff.mp hx).1
    have hj := (List.getElem?_eq_some_iff.mp hy).1
    refine ⟨.ref a, rfl, .int i, rfl, a, ws, i, rfl, hL, hi, .ref a, rfl, .int j, rfl, a, ws, j, rfl, hL, hj, ?_⟩
    obtain ⟨dx, t, b, r, h1, h2, h3, h4, h5⟩ := hL
    obtain ⟨b', rows, eb, hS, hT⟩ := h3.toTup
    cases eb
    have lr := hT.len
    rw [List.length_map] at lr
    obtain ⟨ro, hro⟩ : ∃ ro, rows[i]? = some ro := ⟨rows[i]'(by omega), List.getElem?_eq_getElem _⟩
    obtain ⟨d, hd, tr⟩ := hT.at hro
    rw [List.getElem?_map, hx] at hd
    cases hd
    obtain ⟨b2, cells, rfl, hS2, hT2⟩ := tr.toTup
    have lc := hT2.len
    rw [List.length_map] at lc
    obtain ⟨ce, hce⟩ : ∃ ce, cells[j]? = some ce := ⟨cells[j]'(by omega), List.getElem?_eq_getElem _⟩
    obtain ⟨d, hd, tc⟩ := hT2.at hce
    rw [List.getElem?_map, hy] at hd
    cases hd
    obtain ⟨c, rfl, hc⟩ := tc.toInts
    refine ⟨.ref a, rfl, a, C, dx, _, _, rfl, h1, T.cl, T.nB, lf_bars _ _ _, .int i, rfl, b, rows, i, .ref b2, rfl, rfl, hS, atI_nat hro, ?_⟩
    refine ⟨.int j, rfl, b2, cells, j, .ref c, rfl, rfl, hS2, atI_nat hce, q c ?_⟩
    rw [nV_eq]
    exact hc
/-! ### one == other -/
def spEq (K : PySem.W.Frag) (C : Addr) : Sp := fun vs H Q _ => ∃ (a b : Addr) (ws us : List (List Int)), vs = [.ref a, .ref b] ∧ LineAt K C H a ws ∧ LineAt K C H b us ∧ Q (.bl (decide (ws = us))) H
theorem ok_eq {f C : Addr} {fd : FuncData} {k : Nat} (F : Fun K "__eq__" "Line.__eq__" s_Line_eq f fd) (T : LC K mg C) (I : LI K C) (m1 : mg "isinstance" = none) :
    FnOk P w K mg base CX0 (k + 1) f fd ["self", "other"] (spEq K C) := by
  refine F.ok sc_Line_eq (fun vs H Q E h => ?_) (fun cdv A outer s H vs Q E hr h => ?_)
  · obtain ⟨a, b, ws, us, rfl, _⟩ := h; rfl
  · obtain ⟨a, b, ws, us, rfl, hL, hR, q⟩ := h
    have hu := hr.units
    refine ⟨_, pss_one (ps_ret (pe_and (pe_callB call_isi (by rfl) m1 (by decide +kernel) (pa_cons (pv 1) (pa_cons (pe_glob (v := .ref C) (by rfl) T.mgC rfl) pa_nil)))
      (pe_one (pe_cmpR (op_eqD hu) (pe_fld (pv 0) rfl) (pe_fld (pv 1) rfl) (nomark _))))), ?_⟩
    refine ⟨.ref b, rfl, .ref b, .ref C, .ref C, .ref C, true, rfl, .own C, isLine T.cl I hR, I.kit, ?_⟩
    obtain ⟨dx, t, b1, r, h1, h2, h3, h4, h5⟩ := hL
    obtain ⟨dx', t', b1', r', h1', h2', h3', h4', h5'⟩ := hR
    refine ⟨true, rfl, iteT ?_⟩
    refine ⟨.ref a, rfl, a, C, dx, _, _, rfl, h1, T.cl, T.nW, lf_works _ _ _, .ref b, rfl, b, C, dx', _, _, rfl, h1', T.cl, T.nW, lf_works _ _ _, _, _, h2.dp, h2'.dp, shaped_tDs _, shaped_tDs _, ?_⟩
    rw [show PyData.eqv (.tuple (tDs ws)) (.tuple (tDs us)) = decide (ws = us) from by rw [PyData.eqv, eqv_tDs]]
    exact q
end
end Sg
set_option Elab.async false
set_option linter.all false
set_option maxRecDepth 100000
set_option maxHeartbeats 4000000
namespace Sg
open PySem PySem.Spec PyProof.Rows L2 StX
section
variable {P : Program} {w : World} {K : PySem.W.Frag} {mg : Str → Option Value} {base : Heap}
theorem GoodL.plus {ws us : List (List Int)} (h : GoodL ws) (g : GoodL us) (hl : ws.length + us.length ≤ 3) : GoodL (ws ++ us) := by
  refine ⟨by have := h.least; rw [List.length_append]; omega, by rw [List.length_append]; exact hl, fun w hw => ?_⟩
  rcases List.mem_append.mp hw with z | z
  · exact h.work w z
  · exact g.work w z
theorem GoodL.less {ws : List (List Int)} (h : GoodL ws) {i : Nat} (hi : i < ws.length) (h2 : 2 ≤ ws.length) : GoodL (ws.take i ++ ws.drop (i + 1)) := by
  have := h.few
  refine ⟨by rw [List.length_append, List.length_take, List.length_drop]; omega, by rw [List.length_append, List.length_take, List.length_drop]; omega, fun w hw => ?_⟩
  rcases List.mem_append.mp hw with z | z
  · exact h.work w (List.mem_of_mem_take z)
  · exact h.work w (List.mem_of_mem_drop z)
/-! ### one + other -/
def spAdd (K : PySem.W.Frag) (C : Addr) : Sp := fun vs H Q _ => ∃ (a b : Addr) (ws us : List (List Int)), vs = [.ref a, .ref b] ∧ LineAt K C H a ws ∧ LineAt K C H b us ∧ ws.length + us.length ≤ 3 ∧
  ∀ H' x, Same H H' → H x = none → LineAt K C H' x (ws ++ us) → Q (.ref x) H'
theorem ok_add {f f1 C : Addr} {fd : FuncData} {k : Nat} (F : Fun K "__add__" "Line.__add__" s_Line_add f fd) (T : LC K mg C) (I : LI K C) (M : Mk K C f1) (G : FnR P w K mg base CX0 k f1 (spInit K C)) (m1 : mg "isinstance" = none) :
    FnOk P w K mg base CX0 (k + 2) f fd ["self", "other"] (spAdd K C) := by
  refine F.ok sc_Line_add (fun vs H Q E h => ?_) (fun cdv A outer s H vs Q E hr h => ?_)
  · obtain ⟨a, b, ws, us, rfl, _⟩ := h; rfl
  · obtain ⟨a, b, ws, us, rfl, hL, hR, hl, q⟩ := h
    refine ⟨_, pss_cons (ps_if (pt_not (pt_val (pe_callB call_isi (by rfl) m1 (by decide +kernel) (pa_cons (pv 1) (pa_cons (pe_glob (v := .ref C) (by rfl) T.mgC rfl) pa_nil))))) (pss_one ps_never) pss_nil)
      (pss_cons (ps_set (i := 2) sc_Line_add.nd rfl (Or.inl rfl) (pe_op op_catA (pe_fld (pv 0) rfl) (pe_fld (pv 1) rfl)))
      (pss_one (ps_ret (pe_makeS M G hr (by rfl) T.mgC pass0 (pv 2))))), ?_⟩
    refine ⟨.ref b, rfl, .ref b, .ref C, .ref C, .ref C, true, rfl, .own C, isLine T.cl I hR, I.kit, true, rfl, iteF ?_⟩
    obtain ⟨dx, t, b1, r, h1, h2, h3, h4, h5⟩ := id hL
    obtain ⟨dx', t', b1', r', h1', h2', h3', h4', h5'⟩ := id hR
    obtain ⟨_, xs, e, hS, hT⟩ := h2.toTup
    cases e
    obtain ⟨_, ys, e, hS', hT'⟩ := h2'.toTup
    cases e
    have l1 := hT.len
    have l2 := hT'.len
    rw [List.length_map] at l1 l2
    have p1 := h5.least
    have p2 := h5'.least
    refine ⟨.ref a, rfl, a, C, dx, _, _, rfl, h1, T.cl, T.nW, lf_works _ _ _, .ref b, rfl, b, C, dx', _, _, rfl, h1', T.cl, T.nW, lf_works _ _ _, t, t', xs, ys, rfl, rfl, hS, hS', Nat.le_of_lt (small1000 (by omega)),
      (fun z => ?_), (fun _ z => ?_), (fun _ _ p np => ?_)⟩
    · rw [z] at l1; rw [← l1] at p1; exact absurd p1 (by decide)
    · rw [z] at l2; rw [← l2] at p2; exact absurd p2 (by decide)
    · refine ⟨.ref p, rfl, p, xs ++ ys, rfl, .inl (.of upd_same), ?_⟩
      have st : St K H (upd H p (.tup (xs ++ ys))) := .of (same_new np)
      refine make_line (ws := ws ++ us) ?_ (h5.plus h5' hl) (fun H' x e3 nx hLx => ?_)
      · have z := (hT.stay st).add (hT'.stay st)
        rw [← List.map_append] at z
        exact z
      · exact q H' x ((same_new np).trans e3) (Same.free (same_new np) nx) hLx
/-! ### line - kind -/
def spSub (K : PySem.W.Frag) (C : Addr) : Sp := fun vs H Q _ => ∃ (a : Addr) (ws : List (List Int)) (i : Nat), vs = [.ref a, .int i] ∧ LineAt K C H a ws ∧ i < ws.length ∧ 2 ≤ ws.length ∧
  ∀ H' x, Same H H' → H x = none → LineAt K C H' x (ws.take i ++ ws.drop (i + 1)) → Q (.ref x) H'
theorem ok_sub {f f1 f2 C : Addr} {fd fd2 : FuncData} {k : Nat} (F : Fun K "__sub__" "Line.__sub__" s_Line_sub f fd) (T : LC K mg C) (M : Mk K C f1) (G : FnR P w K mg base CX0 k f1 (spInit K C))
    (G2 : FnOk P w K mg base CX0 k f2 fd2 ["line", "thing"] (spReqKind K C)) (kp2 : PySem.W.keepIn K (.ref f2) = true) (b2 : Binds K fd2 ["line", "thing"] []) (g2 : mg "require_kind" = some (.ref f2)) (m1 : mg "len" = none) :
    FnOk P w K mg base CX0 (k + 2) f fd ["self", "other"] (spSub K C) := by
  refine F.ok sc_Line_sub (fun vs H Q E h => ?_) (fun cdv A outer s H vs Q E hr h => ?_)
  · obtain ⟨a, ws, i, rfl, _⟩ := h; rfl
  · obtain ⟨a, ws, i, rfl, hL, hi, h2w, q⟩ := h
    refine ⟨_, pss_cons (ps_expr (pe_call G2 (hr.mono (Nat.le_succ k)) (by rfl) g2 kp2 b2 .nil pass0 (pa_cons (pv 0) (pa_cons (pv 1) pa_nil))))
      (pss_cons (ps_if (pt_cmpR op_eq (pe_callB call_len_seq (by rfl) m1 PySem.boot_len (pa_cons (pe_fld (pv 0) rfl) pa_nil)) pe_int (nomark _)) (pss_one ps_never) pss_nil)
      (pss_cons (ps_set (i := 2) sc_Line_sub.nd rfl (Or.inl rfl) (pe_op op_catA (pe_slice sl_tup (pe_fld (pv 0) rfl) po_none (po_some (pv 1))) (pe_slice sl_tup (pe_fld (pv 0) rfl) (po_some (pe_op op_add (pv 1) pe_int)) po_none)))
      (pss_one (ps_ret (pe_makeS M G hr (by rfl) T.mgC pass0 (pv 2)))))), ?_⟩
    refine ⟨.ref a, rfl, .int i, rfl, a, ws, i, rfl, hL, hi, ?_⟩
    obtain ⟨dx, t, b1, r, h1, h2, h3, h4, h5⟩ := id hL
    obtain ⟨_, xs, e, hS, hT⟩ := h2.toTup
    cases e
    have l1 := hT.len
    rw [List.length_map] at l1
    have few := h5.few
    refine ⟨.ref a, rfl, a, C, dx, _, _, rfl, h1, T.cl, T.nW, lf_works _ _ _, t, xs, rfl, .inr hS, rfl, ?_⟩
    have c1 : decide (V.int ((xs.length : Nat) : Int) = V.int 1) = false := decide_eq_false fun z => by have := V.int.inj z; omega
    rw [c1]
    refine ⟨false, rfl, iteF ?_⟩
    have w1 : ¬ (HT.sIx xs.length 0 none = 0 ∧ HT.sIx xs.length xs.length (some (i : Int)) = xs.length) := by
      rintro ⟨_, z⟩
      rw [HT.sIx_nat] at z
      omega
    refine ⟨.ref a, rfl, a, C, dx, _, _, rfl, h1, T.cl, T.nW, lf_works _ _ _, .int i, rfl, i, rfl, t, xs, rfl, hS, w1, fun p np => ?_⟩
    have s1 : Same H (upd H p (.tup (cutV xs none (some (i : Int))))) := same_new np
    have e1 : ((i : Int) + 1) = ((i + 1 : Nat) : Int) := by omega
    have w2 : ¬ (HT.sIx xs.length 0 (some ((i : Int) + 1)) = 0 ∧ HT.sIx xs.length xs.length none = xs.length) := by
      rintro ⟨z, _⟩
      rw [e1, HT.sIx_nat] at z
      omega
    have hp1 : (upd H p (.tup (cutV xs none (some (i : Int))))) p = some (.tup (xs.take i)) := by rw [upd_same, cut_upto]
    generalize hH1 : upd H p (.tup (cutV xs none (some (i : Int)))) = H1 at s1 hp1 ⊢
    refine ⟨.ref a, rfl, a, C, dx, _, _, rfl, s1 _ _ h1, T.cl, T.nW, lf_works _ _ _, .int i, rfl, i, 1, rfl, rfl, (i : Int) + 1, rfl, t, xs, rfl, Same.tup s1 hS, w2, fun p2 np2 => ?_⟩
    have s2 : Same H1 (upd H1 p2 (.tup (cutV xs (some ((i : Int) + 1)) none))) := same_new np2
    have hp2 : (upd H1 p2 (.tup (cutV xs (some ((i : Int) + 1)) none))) p2 = some (.tup (xs.drop (i + 1))) := by rw [upd_same, e1, cut_from]
    generalize hH2 : upd H1 p2 (.tup (cutV xs (some ((i : Int) + 1)) none)) = H2 at s2 hp2 ⊢
    have hp1' := s2 _ _ hp1
    have s12 := s1.trans s2
    have tt : TpAll K H (xs.take i ++ xs.drop (i + 1)) (tDs (ws.take i ++ ws.drop (i + 1))) := by
      have z := (hT.cut i).add (hT.off (i + 1))
      rw [← List.map_take, ← List.map_drop, ← List.map_append] at z
      exact z
    have fin : ∀ (H3 : Hp) (l : Addr), Same H H3 → SqT K H3 l (xs.take i ++ xs.drop (i + 1)) →
        ∃ a' xs', V.ref l = V.ref a' ∧ (SqT K H3 a' xs' ∨ SqL K H3 a' xs') ∧ ∀ z dz, H3 z = none → H3 dz = none → dz ≠ z → spInit K C (V.ref z :: xs') (upd (upd H3 dz (.own z)) z (.ins C dz [])) (fun v H2 => v = .non ∧ Q (.ref z) H2) E0 := by
      intro H3 l e3 hl
      refine ⟨l, _, rfl, .inl hl, make_line (ws := ws.take i ++ ws.drop (i + 1)) (tt.stay (.of e3)) (h5.less hi h2w) fun H' x e4 nx hLx => q H' x (e3.trans e4) (Same.free e3 nx) hLx⟩
    have len2 : (xs.take i).length + (xs.drop (i + 1)).length ≤ sizeLine := by
      rw [List.length_take, List.length_drop]
      exact Nat.le_of_lt (small1000 (by omega))
    refine ⟨p, p2, _, _, rfl, rfl, .of hp1', .of hp2, len2, (fun z => ?_), (fun _ z => ?_), (fun _ _ p3 np3 => ?_)⟩
    · refine ⟨.ref p2, rfl, fin H2 p2 s12 ?_⟩
      rw [z, List.nil_append]
      exact .of hp2
    · refine ⟨.ref p, rfl, fin H2 p s12 ?_⟩
      rw [z, List.append_nil]
      exact .of hp1'
    · exact ⟨.ref p3, rfl, fin _ p3 (s12.trans (same_new np3)) (.of upd_same)⟩
/-! ### -line -/
def spNeg (K : PySem.W.Frag) (C : Addr) : Sp := fun vs H Q _ => ∃ (a : Addr) (ws : List (List Int)), vs = [.ref a] ∧ LineAt K C H a ws ∧
  ∀ H' x, Same H H' → H x = none → LineAt K C H' x (ws.map List.reverse) → Q (.ref x) H'
theorem ok_neg {f f1 C : Addr} {fd : FuncData} {k : Nat} (F : Fun K "__neg__" "Line.__neg__" s_Line_neg f fd) (T : LC K mg C) (M : Mk K C f1) (G : FnR P w K mg base CX0 k f1 (spInit K C)) :
    FnOk P w K mg base CX0 (k + 2) f fd ["self"] (spNeg K C) := by
  refine F.ok sc_Line_neg (fun vs H Q E h => ?_) (fun cdv A outer s H vs Q E hr h => ?_)
  · obtain ⟨a, ws, rfl, _⟩ := h; rfl
  · obtain ⟨a, ws, rfl, hL, q⟩ := h
    refine ⟨_, pss_cons (ps_setLc (i := 1) (own := [("work", 2)]) (g := gName 2) (tt := tYes) rfl sc_Line_neg.nd rfl rfl (sw_true rfl rfl rfl (by decide +kernel)) (pi_tup (pe_fld (pv 0) rfl))
          (blkOk_by (N := ["self", "works", "work"]) (sc := defScope s_Line_neg) (by decide +kernel))
          (fun _ _ _ _ _ => pg_name (i := 2) sc_Line_neg.nd rfl (Or.inl rfl)) (fun _ _ _ _ _ => pts_nil) (fun _ _ _ _ _ => pe_revT (K := K) rfl (pv 2)))
      (pss_one (ps_ret (pe_makeS M G hr (by rfl) T.mgC pass0 (pv 1)))), ?_⟩
    obtain ⟨dx, t, b1, r, h1, h2, h3, h4, h5⟩ := id hL
    obtain ⟨_, xs, e, hS, hT⟩ := h2.toTup
    cases e
    have l1 := hT.len
    rw [List.length_map] at l1
    have few := h5.few
    have lz : (tDs (ws.map List.reverse)).length ≤ 1000 := by rw [List.length_map, List.length_map]; omega
    refine ⟨.ref a, rfl, a, C, dx, _, _, rfl, h1, T.cl, T.nW, lf_works _ _ _, t, rfl, ⟨_, hS⟩, fun D hD => ?_⟩
    refine lc_tup (xs := xs) (fun i H' => Grow K H D (tDs (ws.map List.reverse)) i H') (.zero hD) (fun i H' _ h => Same.tup h.1 hS) (fun i x H' hx h => ?_) (fun H' h => ?_)
    · obtain ⟨o, c1, ho, rfl, hc1⟩ := hT.works hx
      refine ⟨rfl, .ref c1, rfl, c1, _, rfl, Same.tup h.1 hc1, fun p np => ?_⟩
      refine h.next hD lz (same_new np) (d := tD o.reverse) (by rw [List.getElem?_map, List.getElem?_map, ho]; rfl) (.ofInts ?_)
      rw [List.map_reverse]
      exact .of upd_same
    · obtain ⟨e2, acc, g1, g2⟩ := h.done (by rw [List.length_map, List.length_map, l1])
      exact ⟨.ref D, rfl, D, acc, rfl, .inr (.of g1), make_line (ws := ws.map List.reverse) g2 h5.back fun H3 x e3 nx hLx => q H3 x (e2.trans e3) (Same.free e2 nx) hLx⟩
end
end Sg
set_option Elab.async false
set_option linter.all false
set_option maxRecDepth 100000
set_option maxHeartbeats 4000000
namespace Sg
open PySem PySem.Spec PyProof.Rows L2 StX
/-- what a class has under a name: a def that keeps sp -/
structure Has (P : Program) (w : World) (K : PySem.W.Frag) (mg : Str → Option Value) (base : Heap) (k : Nat) (C : Addr) (n : Str) (f : Addr) (fd : FuncData) (ps : List Str) (sp : Sp) : Prop where
  ok : FnOk P w K mg base CX0 k f fd ps sp
  bi : Binds K fd ps []
  at_ : PySem.W.findIn K (.ref C) n = some (some (.ref f))
  fn : PySem.W.isFn K (.ref f) = true
/-- what the operators ask of the class beside their defs -/
structure Ops (K : PySem.W.Frag) (C : Addr) : Prop where
  sf : PySem.W.selfFirst K C = true
  rs : ∃ rc, PySem.W.findIn K (.ref C) "__rsub__" = some rc ∧ (rc = none ∨ ∃ g : Addr, rc = some (.ref g))
  is : ∃ fo, PySem.W.findIn K (.type "int") "__sub__" = some fo
  ir : ∃ ro, PySem.W.findIn K (.type "int") "__rsub__" = some ro
  nsub : PySem.W.subIn K (.type "int") (.ref C) = some false
  ne : PySem.W.findIn K (.ref C) "__ne__" = some (some (.builtin "object.__ne__"))
  ob : PySem.W.subIn K (.ref C) (.type "object") = some true
/-- Line's methods, as they are promised -/
structure Meths (P : Program) (w : World) (K : PySem.W.Frag) (mg : Str → Option Value) (base : Heap) (k : Nat) (C : Addr) : Prop where
  lc : LC K mg C
  li : LI K C
  op : Ops K C
  len : ∃ f fd, Has P w K mg base k C "__len__" f fd ["self"] (spLen K C)
  call : ∃ f fd, Has P w K mg base k C "__call__" f fd ["self", "one", "other"] (spCall K C) ∧ PySem.W.fnIn K f = true
  add : ∃ f fd, Has P w K mg base k C "__add__" f fd ["self", "other"] (spAdd K C)
  sub : ∃ f fd, Has P w K mg base k C "__sub__" f fd ["self", "other"] (spSub K C)
  neg : ∃ f fd, Has P w K mg base k C "__neg__" f fd ["self"] (spNeg K C)
  eq : ∃ f fd, Has P w K mg base k C "__eq__" f fd ["self", "other"] (spEq K C)
  works : ∃ p g fd, PropOf K C "works" p g ∧ FnOk P w K mg base CX0 k g fd ["self"] (getSp C "_works") ∧ Binds K fd ["self"] []
  reach : ∃ p g fd, PropOf K C "reach" p g ∧ FnOk P w K mg base CX0 k g fd ["self"] (getSp C "_reach") ∧ Binds K fd ["self"] []
  init : ∃ f, Mk K C f ∧ FnR P w K mg base CX0 k f (spInit K C)
section
variable {X : Cx} {k : Nat} {C : Addr}
theorem Meths.cLen (M : Meths X.prog X.w X.K X.mg X.base k C) (hr : Room (k + 2) X.A) : CallR X (.builtin "len") (fun xs H Q => ∃ a ws, xs = [.ref a] ∧ LineAt X.K C H a ws ∧ Q (.int (ws.length : Nat)) H) := by
  obtain ⟨f, fd, h⟩ := M.len
  intro pins s σ H xs us Q I r q
  obtain ⟨a, ws, rfl, hL, q⟩ := q
  refine call_lenO h.ok (hr.mono (Nat.le_succ _)) h.bi h.at_ h.fn pins s σ H _ us Q I r ⟨a, rfl, hL.ins, a, ws, rfl, hL, ws.length, rfl, ?_, q⟩
  have := hL.good.few
  omega
def tReach (K : PySem.W.Frag) (C : Addr) (te : TE) : TE := fun σ H Q => te σ H fun x H1 => ∃ a ws, x = .ref a ∧ LineAt K C H1 a ws ∧ ∀ r, Top (allB ws ws) r → Q (.int r) H1
theorem Meths.pReach {K : PySem.W.Frag} {e : Expr} {te : TE} {pos : Pos} (M : Meths X.prog X.w K X.mg X.base k C) (hK : X.K = K) (hr : Room (k + 2) X.A) (he : PE X e te) (hab : attributeBase e "reach" X.env (eval e X.env) = eval e X.env := by rfl) :
    PE X (.Attribute e "reach" pos) (tReach K C te) := by
  subst hK
  obtain ⟨p, g, fd, h1, h2, h3⟩ := M.reach
  refine ⟨fun pins s σ H Q I h => attr_of hab (thn (he.run pins s σ H _ I h) fun u s1 ⟨x, H1, I1, rx, a, ws, ex, ea, q⟩ => ?_)⟩
  subst ex
  obtain rfl : u = Value.ref a := rx
  obtain ⟨dx, t, b, r, g1, g2, g3, g4, g5⟩ := ea
  exact getprop_ok I1 g1 M.lc.cl h1 h2 (hr.mono (Nat.le_succ _)) h3 .nil pass0 ⟨a, dx, _, _, rfl, g1, lf_reach _ _ _, q r g4⟩
def tCallL (K : PySem.W.Frag) (C : Addr) (tf : TE) (t : TA) : TE := fun σ H Q => tf σ H fun y H1 => ∃ a, y = V.ref a ∧ t σ H1 fun vs H2 => ∃ ws, ∃ i j : Nat, ∃ x y, vs = [.int i, .int j] ∧ LineAt K C H2 a ws ∧ ws[i]? = some x ∧ ws[j]? = some y ∧
  ∀ c, SqT K H2 c (nV (barsN x y)) → Q (.ref c) H2
theorem Meths.pCall {K : PySem.W.Frag} {fe e : Expr} {es : List Expr} {tf : TE} {t : TA} {pos : Pos} (M : Meths X.prog X.w K X.mg X.base k C) (hK : X.K = K) (hr : Room (k + 2) X.A) (hf : PE X fe tf) (ha : PA X (e :: es) t)
    (ht : eval (.Call fe (e :: es) [] pos) X.env = (do callWith pos (← eval fe X.env) [] (backTo pos (starEach (e :: es) X.env)) (backToKw pos (keywordEach [] X.env))) := by rfl)
    (he : starEach (e :: es) X.env = (false, eval e X.env) :: starEach es X.env := by rfl) (hpl : (backTo pos (starEach es X.env)).any (·.1) = false := by rfl) :
    PE X (.Call fe (e :: es) [] pos) (tCallL K C tf t) := by
  subst hK
  obtain ⟨g, fd, h, hg⟩ := M.call
  have c : CallO X.K C g := ⟨h.at_, h.fn, hg⟩
  refine ⟨fun pins s σ H Q I h' => Call_ (thn (hf.run pins s σ H _ I h') fun u s1 ⟨y, H1, I1, ry, a, ey, q⟩ => ?_) ht⟩
  subst ey
  obtain rfl : u = Value.ref a := ry
  refine callO_with (thn (ha.run pos pins s1 σ H1 _ I1 q) fun us s2 ⟨vs, H2, I2, r, ws, i, j, x, y, ev, hL, hx, hy, q2⟩ => ?_) he hpl
  subst ev
  have hi' : InsC X H2 a C := .inr hL.ins
  obtain ⟨ox, od, J, hd⟩ := insC_at I2 hi'
  exact ⟨⟨C, ox, od, J, hd⟩, run_callO c (fnR_of h.ok h.bi) (hr.mono (Nat.le_add_right _ _)) pass0 I2 hi' r ⟨a, ws, i, j, x, y, rfl, hL, hx, hy, q2⟩⟩
/-- Line(e, ..) -/
def tNewL (K : PySem.W.Frag) (C : Addr) (t : TA) : TE := fun σ H Q => t σ H fun vs H1 => ∃ ws, TpAll K H1 vs (tDs ws) ∧ GoodL ws ∧ ∀ H' a, Same H1 H' → H1 a = none → LineAt K C H' a ws → Q (.ref a) H'
theorem Meths.pNew {K : PySem.W.Frag} {e : Expr} {es : List Expr} {t : TA} {p pos : Pos} (M : Meths X.prog X.w K X.mg X.base k C) (hK : X.K = K) (hr : Room (k + 2) X.A) (hg : Gl X "Line") (ha : PA X (e :: es) t)
    (he : starEach (e :: es) X.env = (false, eval e X.env) :: starEach es X.env := by rfl) (hpl : (backTo pos (starEach es X.env)).any (·.1) = false := by rfl) : PE X (.Call (.Name "Line" p) (e :: es) [] pos) (tNewL K C t) := by
  subst hK
  obtain ⟨f, m, h⟩ := M.init
  refine ⟨fun pins s σ H Q I h' => ?_⟩
  refine wpAny_Call_Name_kw (ld_glob I hg M.lc.mgC ?_ (by decide))
  refine PySem.W.callWith_K (h₀ := X.base) I.ok.mod.kin m.kp (thn (ha.run pos pins s σ H _ I h') fun us s1 ⟨vs, H1, I1, r, ws, hT, hgd, q⟩ => ⟨I1.kIn, ?_⟩) he hpl
  exact run_makeR m h (hr.mono (Nat.le_succ _)) pass0 I1 r (make_line hT hgd q)
end
end Sg
set_option Elab.async false
set_option linter.all false
set_option maxRecDepth 100000
set_option maxHeartbeats 4000000
namespace Sg
open PySem PySem.Spec PyProof.Rows L2 StX
section
variable {P : Program} {w : World} {K : PySem.W.Frag} {mg : Str → Option Value} {base : Heap}
def spReqLine (K : PySem.W.Frag) (C : Addr) : Sp := fun vs H Q _ => ∃ (a : Addr) (ws : List (List Int)), vs = [.ref a] ∧ LineAt K C H a ws ∧ Q .non H
theorem ok_require_line {f C : Addr} {fd : FuncData} {k : Nat} (F : Fun K "require_line" "require_line" s_require_line f fd) (T : LC K mg C) (I : LI K C) (m1 : mg "isinstance" = none) :
    FnOk P w K mg base CX0 (k + 1) f fd ["thing"] (spReqLine K C) := by
  refine F.ok sc_require_line (fun vs H Q E h => ?_) (fun cdv A outer s H vs Q E hr h => ?_)
  · obtain ⟨a, ws, rfl, _⟩ := h; rfl
  · obtain ⟨a, ws, rfl, hL, q⟩ := h
    refine ⟨_, pss_one (ps_if (pt_not (pt_val (pe_callB call_isi (by rfl) m1 (by decide +kernel) (pa_cons (pv 0) (pa_cons (pe_glob (v := .ref C) (by rfl) T.mgC rfl) pa_nil))))) (pss_one ps_never) pss_nil), ?_⟩
    exact ⟨.ref a, rfl, .ref a, .ref C, .ref C, .ref C, true, rfl, .own C, isLine T.cl I hL, I.kit, true, rfl, iteF q⟩
end
end Sg
set_option Elab.async false
set_option linter.all false
set_option maxRecDepth 100000
set_option maxHeartbeats 4000000
namespace Sg
open PySem PySem.Spec PyProof.Rows L2 StX
/-- a whole number as it is written -/
def num (i : Int) : Str := toString i
def word (n : Nat) : Str := (("Line(" : Str) ++ num n) ++ (" works)" : Str)
section
variable {P : Program} {w : World} {K : PySem.W.Frag} {mg : Str → Option Value} {base : Heap}
/-! ### line[kind] -/
def spItem (K : PySem.W.Frag) (C : Addr) : Sp := fun vs H Q _ => ∃ (a : Addr) (ws : List (List Int)) (i : Nat) (x : List Int), vs = [.ref a, .int i] ∧ LineAt K C H a ws ∧ ws[i]? = some x ∧ ∀ c, SqT K H c (x.map V.int) → Q (.ref c) H
theorem ok_item {f f1 C : Addr} {fd fd1 : FuncData} {k : Nat} (F : Fun K "__getitem__" "Line.__getitem__" s_Line_getitem f fd) (T : LC K mg C)
    (G1 : FnOk P w K mg base CX0 k f1 fd1 ["line", "thing"] (spReqKind K C)) (kp1 : PySem.W.keepIn K (.ref f1) = true) (b1 : Binds K fd1 ["line", "thing"] []) (g1 : mg "require_kind" = some (.ref f1)) :
    FnOk P w K mg base CX0 (k + 1) f fd ["self", "at"] (spItem K C) := by
  refine F.ok sc_Line_getitem (fun vs H Q E h => ?_) (fun cdv A outer s H vs Q E hr h => ?_)
  · obtain ⟨a, ws, i, x, rfl, _⟩ := h; rfl
  · obtain ⟨a, ws, i, x, rfl, hL, hx, q⟩ := h
    refine ⟨_, pss_cons (ps_expr (pe_call G1 hr (by rfl) g1 kp1 b1 .nil pass0 (pa_cons (pv 0) (pa_cons (pv 1) pa_nil))))
      (pss_one (ps_ret (pe_ix ix_tup (pe_fld (pv 0) rfl) (pv 1) (fun _ _ => rfl)))), ?_⟩
    have hi := (List.getElem?_eq_some_iff.mp hx).1
    refine ⟨.ref a, rfl, .int i, rfl, a, ws, i, rfl, hL, hi, ?_⟩
    obtain ⟨dx, t, b, r, h1, h2, h3, h4, h5⟩ := hL
    obtain ⟨_, xs, e, hS, hT⟩ := h2.toTup
    cases e
    have l := hT.len
    rw [List.length_map] at l
    obtain ⟨y, hy⟩ : ∃ y, xs[i]? = some y := ⟨xs[i]'(by omega), List.getElem?_eq_getElem _⟩
    obtain ⟨x', c, hx', rfl, hc⟩ := hT.works hy
    obtain rfl : x = x' := Option.some.inj (hx.symm.trans hx')
    exact ⟨.ref a, rfl, a, C, dx, _, _, rfl, h1, T.cl, T.nW, lf_works _ _ _, .int i, rfl, t, xs, i, .ref c, rfl, rfl, hS, atI_nat hy, q c hc⟩
/-! ### repr -/
def spRepr (K : PySem.W.Frag) (C : Addr) : Sp := fun vs H Q _ => ∃ (a : Addr) (ws : List (List Int)), vs = [.ref a] ∧ LineAt K C H a ws ∧ Q (.str (word ws.length)) H
theorem word_join (n : Nat) (h1 : 1 ≤ n) (h2 : n ≤ 3) : ((Str.empty ++ ("Line(" : Str)) ++ num n) ++ (" works)" : Str) = word n := by
  have : n = 1 ∨ n = 2 ∨ n = 3 := by omega
  rcases this with rfl | rfl | rfl <;> decide +kernel
theorem num_len (n : Nat) (h1 : 1 ≤ n) (h2 : n ≤ 3) : ((Str.empty ++ ("Line(" : Str)) ++ num n).length ≤ 100 ∧ (((Str.empty ++ ("Line(" : Str)) ++ num n) ++ (" works)" : Str)).length ≤ 100 := by
  have : n = 1 ∨ n = 2 ∨ n = 3 := by omega
  rcases this with rfl | rfl | rfl <;> decide +kernel
theorem log_small (n : Nat) (h2 : n ≤ 3) : ((n : Int)).natAbs.log2 < 1920 := by
  have : n = 0 ∨ n = 1 ∨ n = 2 ∨ n = 3 := by omega
  rcases this with rfl | rfl | rfl | rfl <;> decide +kernel
theorem ok_repr {f C : Addr} {fd : FuncData} {k : Nat} (F : Fun K "__repr__" "Line.__repr__" s_Line_repr f fd) (T : LC K mg C) (m1 : mg "len" = none) :
    FnOk P w K mg base CX0 (k + 1) f fd ["self"] (spRepr K C) := by
  refine F.ok sc_Line_repr (fun vs H Q E h => ?_) (fun cdv A outer s H vs Q E hr h => ?_)
  · obtain ⟨a, ws, rfl, _⟩ := h; rfl
  · obtain ⟨a, ws, rfl, ⟨dx, t, b, r, h1, h2, h3, h4, h5⟩, q⟩ := h
    refine ⟨_, pss_one (ps_ret (pe_joined (.cons pe_str (.cons (pe_fmt (pe_callB call_len_seq (by rfl) m1 PySem.boot_len (pa_cons (pe_fld (pv 0) rfl) pa_nil))) (.cons pe_str .nil))))), ?_⟩
    obtain ⟨t', xs, e, hS, hT⟩ := h2.toTup
    cases e
    have l := hT.len
    rw [List.length_map] at l
    have big : 100 ≤ sizeLine := by rw [sizeLine_eq]; decide
    obtain ⟨z1, z2⟩ := num_len ws.length h5.least h5.few
    refine ⟨_, rfl, Nat.le_trans (by decide +kernel) big, ?_⟩
    refine ⟨.ref a, rfl, a, C, dx, _, _, rfl, h1, T.cl, T.nW, lf_works _ _ _, t, xs, rfl, .inr hS, ?_⟩
    rw [l]
    refine .inr ⟨((ws.length : Nat) : Int), rfl, log_small _ h5.few, ?_⟩
    refine ⟨_, rfl, Nat.le_trans z1 big, ?_⟩
    refine ⟨_, rfl, Nat.le_trans z2 big, ?_⟩
    have e := word_join ws.length h5.least h5.few
    show Q (.str (((Str.empty ++ ("Line(" : Str)) ++ num ws.length) ++ (" works)" : Str))) H
    rw [e]
    exact q
end
/-- the two more -/
structure Meths2 (P : Program) (w : World) (K : PySem.W.Frag) (mg : Str → Option Value) (base : Heap) (k : Nat) (C : Addr) : Prop where
  m : Meths P w K mg base k C
  item : ∃ f fd, Has P w K mg base k C "__getitem__" f fd ["self", "at"] (spItem K C) ∧ PySem.W.fnIn K f = true
  rep : ∃ f fd, Has P w K mg base k C "__repr__" f fd ["self"] (spRepr K C)
end Sg
set_option Elab.async false
set_option linter.all false
set_option maxRecDepth 100000
set_option maxHeartbeats 4000000
namespace Sg
open PySem PySem.Spec PyProof.Rows L2
/-! ## ascending lists, and how many there are -/
theorem asc_eq : ∀ {xs ys : List Int}, xs.Pairwise (· < ·) → ys.Pairwise (· < ·) → (∀ z, z ∈ xs ↔ z ∈ ys) → xs = ys
  | [], [], _, _, _ => rfl
  | [], y :: _, _, _, h => nomatch (h y).mpr List.mem_cons_self
  | x :: _, [], _, _, h => nomatch (h x).mp List.mem_cons_self
  | x :: xs, y :: ys, h1, h2, h => by
    obtain ⟨a1, b1⟩ := List.pairwise_cons.mp h1
    obtain ⟨a2, b2⟩ := List.pairwise_cons.mp h2
    have e : x = y := by
      rcases List.mem_cons.mp ((h x).mp List.mem_cons_self) with e | e
      · exact e
      · rcases List.mem_cons.mp ((h y).mpr List.mem_cons_self) with g | g
        · exact g.symm
        · have := a2 x e; have := a1 y g; omega
    subst e
    rw [asc_eq b1 b2 fun z => ?_]
    constructor
    · intro hz
      rcases List.mem_cons.mp ((h z).mp (List.mem_cons_of_mem _ hz)) with e | e
      · have := a1 z hz; omega
      · exact e
    · intro hz
      rcases List.mem_cons.mp ((h z).mpr (List.mem_cons_of_mem _ hz)) with e | e
      · have := a2 z hz; omega
      · exact e
theorem range_asc (n : Nat) : (List.range n).Pairwise (· < ·) := by
  induction n with
  | zero => exact .nil
  | succ n ih =>
    rw [List.range_succ, List.pairwise_append]
    exact ⟨ih, List.pairwise_singleton _ _, fun a ha b hb => by rw [List.mem_singleton.mp hb]; exact List.mem_range.mp ha⟩
/-- the numbers of ns, ascending, each once -/
def ascL (ns : List Int) : List Nat := (List.range 60).filter fun d => decide (((d : Nat) : Int) ∈ ns)
theorem ascL_mem {ns : List Int} {d : Nat} : d ∈ ascL ns ↔ d < 60 ∧ ((d : Nat) : Int) ∈ ns := by
  unfold ascL
  rw [List.mem_filter, List.mem_range, decide_eq_true_eq]
theorem ascL_uniq {ns ms : List Int} (h1 : ms.Pairwise (· < ·)) (h2 : ∀ z, z ∈ ms ↔ z ∈ ns) (h3 : ∀ z ∈ ns, 0 ≤ z ∧ z < 60) : ms = nI (ascL ns) := by
  refine asc_eq h1 ?_ fun z => ?_
  · unfold nI ascL
    rw [List.pairwise_map]
    exact ((range_asc 60).filter _).imp fun h => by omega
  · rw [h2]
    constructor
    · intro hz
      have := h3 z hz
      exact List.mem_map.mpr ⟨z.toNat, ascL_mem.mpr ⟨by omega, by rw [Int.toNat_of_nonneg this.1]; exact hz⟩, Int.toNat_of_nonneg this.1⟩
    · intro hz
      obtain ⟨d, hd, rfl⟩ := List.mem_map.mp hz
      exact (ascL_mem.mp hd).2
def subs : List Nat → List (List Nat)
  | [] => [[]]
  | a :: l => subs l ++ (subs l).map (a :: ·)
theorem subs_mem : ∀ {x l : List Nat}, x.Sublist l → x ∈ subs l
  | _, _, .slnil => List.mem_singleton.mpr rfl
  | _, _, .cons a h => List.mem_append.mpr (.inl (subs_mem h))
  | _, _, .cons₂ a h => List.mem_append.mpr (.inr (List.mem_map.mpr ⟨_, subs_mem h, rfl⟩))
theorem subs_len : ∀ l, (subs l).length = 2 ^ l.length
  | [] => rfl
  | a :: l => by
    show (subs l ++ (subs l).map (a :: ·)).length = _
    rw [List.length_append, List.length_map, subs_len l, List.length_cons, Nat.pow_succ]; omega
/-- all lists of n members of D -/
def tuplesOf (D : List (List Nat)) : Nat → List (List (List Nat))
  | 0 => [[]]
  | n + 1 => D.flatMap fun x => (tuplesOf D n).map (x :: ·)
theorem tuplesOf_mem {D : List (List Nat)} : ∀ {n : Nat} {L : List (List Nat)}, L.length = n → (∀ x ∈ L, x ∈ D) → L ∈ tuplesOf D n
  | 0, [], _, _ => List.mem_singleton.mpr rfl
  | n + 1, x :: L, h, g => List.mem_flatMap.mpr ⟨x, g x List.mem_cons_self, List.mem_map.mpr ⟨L, tuplesOf_mem (Nat.succ.inj h) fun y hy => g y (List.mem_cons_of_mem _ hy), rfl⟩⟩
theorem flatMap_len {α β : Type} (f : α → List β) (m : Nat) : ∀ (l : List α), (∀ x ∈ l, (f x).length = m) → (l.flatMap f).length = l.length * m
  | [], _ => by rw [List.flatMap_nil, List.length_nil, List.length_nil, Nat.zero_mul]
  | x :: l, h => by
    rw [List.flatMap_cons, List.length_append, h x List.mem_cons_self, flatMap_len f m l fun y hy => h y (List.mem_cons_of_mem _ hy), List.length_cons, Nat.succ_mul, Nat.add_comm]
theorem tuplesOf_len (D : List (List Nat)) : ∀ n, (tuplesOf D n).length = D.length ^ n
  | 0 => rfl
  | n + 1 => by
    unfold tuplesOf
    rw [flatMap_len _ (D.length ^ n) D fun x _ => by rw [List.length_map, tuplesOf_len D n], Nat.pow_succ, Nat.mul_comm]
/-! ## states: which delays of each kind are barred -/
abbrev Sta := List (List Nat)
def rowS (L : Sta) (k : Nat) : List Nat := L.getD k []
abbrev wkS (ws : List (List Int)) (k : Nat) : List Int := ws.getD k []
/-- is kind k barred d ticks behind the next tick -/
def nextB (ws : List (List Int)) (L : Sta) (c : Option Nat) (k d : Nat) : Bool := decide (d + 1 ∈ rowS L k) || (match c with | some o => decide (d + 1 ∈ barsN (wkS ws o) (wkS ws k)) | none => false)
def nextL (ws : List (List Int)) (L : Sta) (c : Option Nat) : Sta := (List.range ws.length).map fun k => (List.range 60).filter (nextB ws L c k)
def emptyL (ws : List (List Int)) : Sta := List.replicate ws.length []
def openL (ws : List (List Int)) (L : Sta) : List Nat := (List.range ws.length).filter fun k => !decide (0 ∈ rowS L k)
/-- a choice that can be made -/
def CanL (ws : List (List Int)) (L : Sta) : Option Nat → Prop
  | none => True
  | some k => k ∈ openL ws L
theorem nextL_len (ws : List (List Int)) (L : Sta) (c : Option Nat) : (nextL ws L c).length = ws.length := by unfold nextL; rw [List.length_map, List.length_range]
theorem nextL_row {ws : List (List Int)} {L : Sta} {c : Option Nat} {k : Nat} (h : k < ws.length) : rowS (nextL ws L c) k = (List.range 60).filter (nextB ws L c k) := by
  unfold rowS nextL
  rw [List.getD_eq_getElem?_getD, List.getElem?_map, List.getElem?_range h]; rfl
theorem emptyL_row (ws : List (List Int)) (k : Nat) : rowS (emptyL ws) k = [] := by
  unfold rowS emptyL
  rw [List.getD_eq_getElem?_getD, List.getElem?_replicate]
  split <;> rfl
/-- all bars are at most R -/
def Rea (ws : List (List Int)) (R : Nat) : Prop := ∀ o k b, b ∈ barsN (wkS ws o) (wkS ws k) → b ≤ R
/-- what a state may be -/
structure FormL (ws : List (List Int)) (R : Nat) (L : Sta) : Prop where
  len : L.length = ws.length
  rows : ∀ x ∈ L, ∃ f : Nat → Bool, x = (List.range 60).filter f
  lt : ∀ x ∈ L, ∀ d ∈ x, d < R
theorem FormL.empty (ws : List (List Int)) (R : Nat) : FormL ws R (emptyL ws) := by
  refine ⟨List.length_replicate, fun x hx => ⟨fun _ => false, ?_⟩, fun x hx d hd => ?_⟩
  · rw [(List.mem_replicate.mp hx).2]
    have e : (List.range 60).filter (fun _ => false) = [] := List.filter_eq_nil_iff.mpr fun _ _ h => Bool.false_ne_true h
    exact e.symm
  · rw [(List.mem_replicate.mp hx).2] at hd
    exact nomatch hd
theorem rowS_mem {L : Sta} {k d : Nat} (h : d ∈ rowS L k) : rowS L k ∈ L ∧ k < L.length := by
  unfold rowS at h ⊢
  rw [List.getD_eq_getElem?_getD] at h ⊢
  rcases e : L[k]? with _ | x
  · rw [e] at h; exact nomatch h
  · exact ⟨List.mem_of_getElem? e, (List.getElem?_eq_some_iff.mp e).1⟩
theorem FormL.next {ws : List (List Int)} {R : Nat} {L : Sta} (h : FormL ws R L) (hR : Rea ws R) (c : Option Nat) : FormL ws R (nextL ws L c) := by
  refine ⟨nextL_len _ _ _, fun x hx => ?_, fun x hx d hd => ?_⟩
  · obtain ⟨k, _, rfl⟩ := List.mem_map.mp hx
    exact ⟨_, rfl⟩
  · obtain ⟨k, _, rfl⟩ := List.mem_map.mp hx
    have hb := (List.mem_filter.mp hd).2
    unfold nextB at hb
    rw [Bool.or_eq_true, decide_eq_true_eq] at hb
    rcases hb with hb | hb
    · have := h.lt _ (rowS_mem hb).1 _ hb
      omega
    · cases c with
      | none => cases hb
      | some o =>
        have := hR o k (d + 1) (of_decide_eq_true hb)
        omega
theorem filter_cut {f : Nat → Bool} {R : Nat} (hR : R ≤ 60) (h : ∀ d ∈ (List.range 60).filter f, d < R) : ((List.range 60).filter f).Sublist (List.range R) := by
  have e : List.range 60 = List.range R ++ (List.range (60 - R)).map (R + ·) := by
    rw [← List.range_add, show R + (60 - R) = 60 by omega]
  have e2 : (List.range 60).filter f = (List.range R).filter f := by
    rw [e, List.filter_append]
    have : ((List.range (60 - R)).map (R + ·)).filter f = [] := by
      refine List.filter_eq_nil_iff.mpr fun d hd hf => ?_
      obtain ⟨i, hi, rfl⟩ := List.mem_map.mp hd
      have := h (R + i) (List.mem_filter.mpr ⟨by rw [e]; exact List.mem_append.mpr (.inr hd), hf⟩)
      omega
    rw [this, List.append_nil]
  rw [e2]
  exact List.filter_sublist
theorem FormL.row_len {ws : List (List Int)} {R : Nat} {L : Sta} (h : FormL ws R L) (hR : R ≤ 60) : ∀ x ∈ L, x.length ≤ R := fun x hx => by
  obtain ⟨f, rfl⟩ := h.rows x hx
  have := (filter_cut hR (h.lt _ hx)).length_le
  rwa [List.length_range] at this
/-- all that may be states -/
def allL (ws : List (List Int)) (R : Nat) : List Sta := tuplesOf (subs (List.range R)) ws.length
theorem FormL.mem_all {ws : List (List Int)} {R : Nat} {L : Sta} (h : FormL ws R L) (hR : R ≤ 60) : L ∈ allL ws R :=
  tuplesOf_mem h.len fun x hx => by
    obtain ⟨f, rfl⟩ := h.rows x hx
    exact subs_mem (filter_cut hR (h.lt _ hx))
/-- as many ticks as can be gone through -/
def NearR (n R : Nat) : Prop := (n = 1 ∧ R ≤ 8) ∨ (n ≤ 3 ∧ R ≤ 5)
theorem allL_len {ws : List (List Int)} {R : Nat} (h : NearR ws.length R) : (allL ws R).length ≤ 32768 := by
  unfold allL
  rw [tuplesOf_len, subs_len, List.length_range, ← Nat.pow_mul]
  have key : R * ws.length ≤ 15 := by
    rcases h with ⟨h1, h2⟩ | ⟨h1, h2⟩
    · rw [h1]; omega
    · have := Nat.mul_le_mul h2 h1; omega
  exact Nat.le_trans (Nat.pow_le_pow_right (by decide) key) (by decide)
end Sg
set_option Elab.async false
set_option linter.all false
set_option maxRecDepth 100000
set_option maxHeartbeats 4000000
namespace Sg
open PySem PySem.Spec PyProof.Rows L2
/-! ## the states that choices lead to -/
def runS (ws : List (List Int)) (cs : List (Option Nat)) : Sta := cs.foldl (nextL ws) (emptyL ws)
theorem runS_snoc (ws : List (List Int)) (cs : List (Option Nat)) (c : Option Nat) : runS ws (cs ++ [c]) = nextL ws (runS ws cs) c := by
  unfold runS
  rw [List.foldl_append]; rfl
theorem runS_form {ws : List (List Int)} {R : Nat} (hR : Rea ws R) (cs : List (Option Nat)) : FormL ws R (runS ws cs) := by
  unfold runS
  have key : ∀ (cs : List (Option Nat)) (L : Sta), FormL ws R L → FormL ws R (cs.foldl (nextL ws) L) := by
    intro cs
    induction cs with
    | nil => exact fun L h => h
    | cons c r ih => exact fun L h => ih _ (h.next hR c)
  exact key cs _ (FormL.empty ws R)
/-- what bars kind k after d ticks, behind these choices -/
def Due1 (ws : List (List Int)) (cs : List (Option Nat)) (k d : Nat) : Prop := k < ws.length ∧ ∃ i o, cs[i]? = some (some o) ∧ d + (cs.length - i) ∈ barsN (wkS ws o) (wkS ws k)
theorem row_runN {ws : List (List Int)} {R : Nat} (hR : Rea ws R) (R6 : R ≤ 60) : ∀ (n : Nat) (cs : List (Option Nat)), cs.length = n → ∀ (k d : Nat), d ∈ rowS (runS ws cs) k ↔ Due1 ws cs k d := by
  intro n
  induction n with
  | zero =>
    intro cs h k d
    rw [List.eq_nil_of_length_eq_zero h]
    show d ∈ rowS (emptyL ws) k ↔ _
    rw [emptyL_row]
    exact ⟨fun z => (nomatch z), fun ⟨_, i, o, z, _⟩ => (nomatch z)⟩
  | succ n ih =>
    intro cs h k d
    obtain ⟨ds, c, rfl⟩ : ∃ ds c, cs = ds ++ [c] := ⟨cs.dropLast, cs.getLast (by intro z; rw [z] at h; exact nomatch h), (List.dropLast_concat_getLast _).symm⟩
    have hn : ds.length = n := by rw [List.length_append] at h; exact Nat.succ.inj h
    rw [runS_snoc]
    have ihd : ∀ {k d : Nat}, d ∈ rowS (runS ws ds) k ↔ Due1 ws ds k d := fun {k d} => ih ds hn k d
    constructor
    · intro hd
      obtain ⟨_, hk⟩ := rowS_mem hd
      rw [nextL_len] at hk
      rw [nextL_row hk] at hd
      have hb := (List.mem_filter.mp hd).2
      unfold nextB at hb
      rw [Bool.or_eq_true, decide_eq_true_eq] at hb
      refine ⟨hk, ?_⟩
      rcases hb with hb | hb
      · obtain ⟨_, i, o, hi, hm⟩ := ihd.mp hb
        have hl := (List.getElem?_eq_some_iff.mp hi).1
        refine ⟨i, o, by rw [List.getElem?_append_left hl]; exact hi, ?_⟩
        rw [List.length_append, show d + (ds.length + [c].length - i) = d + 1 + (ds.length - i) by show d + (ds.length + 1 - i) = _; omega]
        exact hm
      · cases c with
        | none => cases hb
        | some o =>
          refine ⟨ds.length, o, by rw [List.getElem?_append_right (Nat.le_refl _), Nat.sub_self]; rfl, ?_⟩
          rw [List.length_append, show d + (ds.length + [some o].length - ds.length) = d + 1 by show d + (ds.length + 1 - ds.length) = _; omega]
          exact of_decide_eq_true hb
    · rintro ⟨hk, i, o, hi, hm⟩
      rw [nextL_row hk]
      have hbd := hR o k _ hm
      have hl := (List.getElem?_eq_some_iff.mp hi).1
      rw [List.length_append] at hl hm hbd
      have hl' : i < ds.length + 1 := hl
      have e1 : ds.length + [c].length = ds.length + 1 := rfl
      rw [e1] at hm hbd
      refine List.mem_filter.mpr ⟨List.mem_range.mpr (by omega), ?_⟩
      unfold nextB
      rw [Bool.or_eq_true, decide_eq_true_eq]
      by_cases z : i < ds.length
      · left
        refine ihd.mpr ⟨hk, i, o, by rw [List.getElem?_append_left z] at hi; exact hi, ?_⟩
        rw [show d + 1 + (ds.length - i) = d + (ds.length + 1 - i) by omega]
        exact hm
      · have e : i = ds.length := by omega
        subst e
        rw [List.getElem?_append_right (Nat.le_refl _), Nat.sub_self] at hi
        obtain rfl : c = some o := Option.some.inj hi
        right
        rw [show d + (ds.length + 1 - ds.length) = d + 1 by omega] at hm
        exact decide_eq_true hm
theorem row_run {ws : List (List Int)} {R : Nat} (hR : Rea ws R) (R6 : R ≤ 60) (cs : List (Option Nat)) {k d : Nat} : d ∈ rowS (runS ws cs) k ↔ Due1 ws cs k d := row_runN hR R6 _ cs rfl k d
theorem row_eq {ws : List (List Int)} {R R' : Nat} {L L' : Sta} (h : FormL ws R L) (h' : FormL ws R' L') (e : ∀ k d, d ∈ rowS L k ↔ d ∈ rowS L' k) : L = L' := by
  refine List.ext_getElem (by rw [h.len, h'.len]) fun k hk hk' => ?_
  have r1 : rowS L k = L[k] := by unfold rowS; rw [List.getD_eq_getElem?_getD, List.getElem?_eq_getElem hk]; rfl
  have r2 : rowS L' k = L'[k] := by unfold rowS; rw [List.getD_eq_getElem?_getD, List.getElem?_eq_getElem hk']; rfl
  obtain ⟨f, hf⟩ := h.rows _ (List.getElem_mem hk)
  obtain ⟨g, hg⟩ := h'.rows _ (List.getElem_mem hk')
  have e' := e k
  rw [r1, r2, hf, hg] at e'
  rw [hf, hg]
  refine List.filter_congr fun d hd => ?_
  have := e' d
  rw [List.mem_filter, List.mem_filter] at this
  rw [Bool.eq_iff_iff]
  constructor
  · intro z; exact (this.mp ⟨hd, z⟩).2
  · intro z; exact (this.mpr ⟨hd, z⟩).2
/-- choices each of which can be made -/
def WayC (ws : List (List Int)) (cs : List (Option Nat)) : Prop := ∀ i c, cs[i]? = some c → CanL ws (runS ws (cs.take i)) c
theorem WayC.snoc {ws : List (List Int)} {cs : List (Option Nat)} {c : Option Nat} (h : WayC ws cs) (g : CanL ws (runS ws cs) c) : WayC ws (cs ++ [c]) := by
  intro i d hi
  rcases Nat.lt_or_ge i cs.length with z | z
  · rw [List.getElem?_append_left z] at hi
    rw [List.take_append_of_le_length (by omega)]
    exact h i d hi
  · have hl := (List.getElem?_eq_some_iff.mp hi).1
    rw [List.length_append] at hl
    have e : i = cs.length := by have : i < cs.length + 1 := hl; omega
    subst e
    rw [List.getElem?_append_right (Nat.le_refl _), Nat.sub_self] at hi
    obtain rfl : c = d := Option.some.inj hi
    rw [List.take_left]
    exact g
/-- a state that is reached -/
def Rchd (ws : List (List Int)) (L : Sta) : Prop := ∃ cs, WayC ws cs ∧ runS ws cs = L
theorem Rchd.empty (ws : List (List Int)) : Rchd ws (emptyL ws) := ⟨[], fun i c h => (nomatch h), rfl⟩
theorem Rchd.next {ws : List (List Int)} {L : Sta} {c : Option Nat} (h : Rchd ws L) (g : CanL ws L c) : Rchd ws (nextL ws L c) := by
  obtain ⟨cs, hw, rfl⟩ := h
  exact ⟨cs ++ [c], hw.snoc g, runS_snoc _ _ _⟩
/-- from the empty state on, all that is reached is in a set that is closed -/
theorem Rchd.closed {ws : List (List Int)} {L : Sta} (h : Rchd ws L) (Pd : Sta → Prop) (h0 : Pd (emptyL ws)) (hs : ∀ L c, Pd L → CanL ws L c → Pd (nextL ws L c)) : Pd L := by
  obtain ⟨cs, hw, rfl⟩ := h
  have key : ∀ n, n ≤ cs.length → Pd (runS ws (cs.take n)) := by
    intro n
    induction n with
    | zero => exact fun _ => h0
    | succ n ih =>
      intro hn
      have e : cs.take (n + 1) = cs.take n ++ [cs[n]] := by rw [List.take_add_one, List.getElem?_eq_getElem (by omega)]; rfl
      rw [e, runS_snoc]
      exact hs _ _ (ih (by omega)) (hw n _ (List.getElem?_eq_getElem (by omega)))
  have := key cs.length (Nat.le_refl _)
  rwa [List.take_length] at this
/-! ## the last choices tell all of a state -/
end Sg
set_option Elab.async false
set_option linter.all false
set_option maxRecDepth 100000
set_option maxHeartbeats 4000000
namespace Sg
open PySem PySem.Spec PyProof.Rows L2 StX
theorem op_notInK {X : Cx} {K : PySem.W.Frag} (hK : X.K = K) : OpR X (compareOp .NotIn) (rIn K true) := by subst hK; exact op_notIn_seq
theorem pi_listK {X : Cx} {K : PySem.W.Frag} {tg l : Expr} {tl : TE} (hK : X.K = K) (hl : PE X l tl) : PI X tg l (iList K tl) := by
  subst hK; exact pi_list hl
theorem cLenK {X : Cx} {K : PySem.W.Frag} {k : Nat} {C : Addr} (M : Meths X.prog X.w K X.mg X.base k C) (hK : X.K = K) (hr : Room (k + 2) X.A) : CallR X (.builtin "len") (fun xs H Q => ∃ a ws, xs = [.ref a] ∧ LineAt K C H a ws ∧ Q (.int (ws.length : Nat)) H) := by
  subst hK
  exact M.cLen hr
/-- a walk, whatever is done in its turns -/
theorem it_any {J : L2.It} {n : Nat} {G : Hp → Prop} {Y : Nat → Hp → V → Hp → Prop} (wk : Walk J n G Y) {g : TG} {σ0 : L2.St} {H0 : Hp} {Qd : Hp → Prop} (B : (Hp → Prop) → L2.St → Hp → Prop) (Pv : Nat → Hp → Prop) (h0 : Pv 0 H0) (hG : ∀ i H, i ≤ n → Pv i H → G H)
    (hs : ∀ i x H H', i < n → Pv i H → Y i H x H' → g x σ0 H' (B (Pv (i + 1)))) (hd : ∀ H, Pv n H → Qd H) :
    ∃ W : Nat → Nat → Hp → Prop, (∃ m, W 0 m H0) ∧ ∀ i m H, W i m H → (J.stop i H ∧ Qd H) ∨ (J.go i H ∧ ∃ Nx : Hp → Prop, (∀ H', Nx H' → ∃ m', m' < m ∧ W (i + 1) m' H') ∧ ∀ x H', J.yld i H x H' → g x σ0 H' (B Nx)) := by
  refine ⟨fun i m H => m = n - i ∧ i ≤ n ∧ Pv i H, ⟨n, by simp, Nat.zero_le _, h0⟩, ?_⟩
  rintro i m H ⟨rfl, hi, hp⟩
  have hg := hG i H hi hp
  rcases Nat.lt_or_eq_of_le hi with hlt | rfl
  · exact .inr ⟨wk.goes i H hlt hg, Pv (i + 1), fun H' p' => ⟨n - (i + 1), by omega, rfl, hlt, p'⟩, fun x H' y => hs i x H H' hlt hp (wk.yields i H x H' hlt hg y)⟩
  · exact .inl ⟨wk.stops H hg, hd H hp⟩
theorem nV_len' (l : List Nat) : (nV l).length = l.length := List.length_map _
/-! ## a state in the heap: a tuple of its own, of tuples of its own -/
def RowsAt (H : Hp) : List V → Sta → Prop := Paired fun u r => ∃ c : Addr, u = .ref c ∧ H c = some (.tup (nV r))
def StaAt (H : Hp) (a : Addr) (L : Sta) : Prop := ∃ us, H a = some (.tup us) ∧ RowsAt H us L
theorem RowsAt.keep {H H' : Hp} (e : ∀ a us, H a = some (.tup us) → H' a = some (.tup us)) {us : List V} {L : Sta} (h : RowsAt H us L) : RowsAt H' us L := by
  unfold RowsAt at h ⊢
  induction h with
  | nil => exact .nil
  | cons a r ih =>
    obtain ⟨c, rfl, hc⟩ := a
    exact .cons ⟨c, rfl, e _ _ hc⟩ ih
theorem StaAt.keep {H H' : Hp} (e : ∀ a us, H a = some (.tup us) → H' a = some (.tup us)) {a : Addr} {L : Sta} (h : StaAt H a L) : StaAt H' a L := by
  obtain ⟨us, h1, h2⟩ := h
  exact ⟨us, e _ _ h1, h2.keep e⟩
theorem StaAt.same {H H' : Hp} {a : Addr} {L : Sta} (h : StaAt H a L) (e : Same H H') : StaAt H' a L := h.keep fun _ _ z => e _ _ z
theorem RowsAt.len {H : Hp} {us : List V} {L : Sta} (h : RowsAt H us L) : us.length = L.length := Paired.length h
theorem RowsAt.at {H : Hp} {us : List V} {L : Sta} (h : RowsAt H us L) : ∀ {i : Nat} {u : V}, us[i]? = some u → ∃ c r, L[i]? = some r ∧ u = .ref c ∧ H c = some (.tup (nV r)) := by
  unfold RowsAt at h
  induction h with
  | nil => intro i u e; exact nomatch e
  | @cons v r vs rs a t ih =>
    intro i u e
    cases i with
    | zero =>
      obtain rfl : v = u := Option.some.inj e
      obtain ⟨c, h1, h2⟩ := a
      exact ⟨c, r, rfl, h1, h2⟩
    | succ i => exact ih e
theorem RowsAt.add {H : Hp} {us : List V} {L : Sta} (h : RowsAt H us L) {c : Addr} {r : List Nat} (hc : H c = some (.tup (nV r))) : RowsAt H (us ++ [.ref c]) (L ++ [r]) := Paired.snoc h ⟨c, rfl, hc⟩
abbrev sD (L : Sta) : PyData := .tuple (tDs (L.map nI))
theorem RowsAt.dp {H : Hp} {K : PySem.W.Frag} {us : List V} {L : Sta} (h : RowsAt H us L) : DpAll K H us (tDs (L.map nI)) := by
  unfold RowsAt at h
  induction h with
  | nil => exact .nil
  | cons a r ih =>
    obtain ⟨c, rfl, hc⟩ := a
    rw [nV_eq] at hc
    exact .cons (.tup (.inl (.inl hc)) (dpInts _)) ih
theorem StaAt.dp {H : Hp} {K : PySem.W.Frag} {a : Addr} {L : Sta} (h : StaAt H a L) : Dp K H (.ref a) (sD L) := by
  obtain ⟨us, h1, h2⟩ := h
  exact .tup (.inl (.inl h1)) h2.dp
theorem nI_inj : ∀ {x y : List Nat}, nI x = nI y → x = y
  | [], [], _ => rfl
  | [], _ :: _, h => nomatch h
  | _ :: _, [], h => nomatch h
  | a :: x, b :: y, h => by
    obtain ⟨h1, h2⟩ := List.cons.inj h
    have h1 : (a : Int) = (b : Int) := h1
    rw [nI_inj h2, show a = b by omega]
theorem mapI_inj : ∀ {x y : Sta}, x.map nI = y.map nI → x = y
  | [], [], _ => rfl
  | [], _ :: _, h => nomatch h
  | _ :: _, [], h => nomatch h
  | a :: x, b :: y, h => by
    obtain ⟨h1, h2⟩ := List.cons.inj h
    rw [mapI_inj h2, nI_inj h1]
theorem eqv_sD (L M : Sta) : PyData.eqv (sD L) (sD M) = decide (L = M) := by
  rw [PyData.eqv, eqv_tDs]
  by_cases h : L = M
  · rw [h, decide_eq_true rfl, decide_eq_true rfl]
  · rw [decide_eq_false h, decide_eq_false fun z => h (mapI_inj z)]
/-! ### as a key -/
def nk (L : Sta) : NestedKey := .tup (L.map fun r => .tup (r.map fun d : Nat => .num (d : Int)))
theorem keys_num (H : Hp) : ∀ (r : List Nat), KeyAll H (r.map fun d : Nat => NestedKey.num (d : Int)) (nV r)
  | [] => .no
  | d :: r => .on (.int (d : Int)) (keys_num H r)
theorem RowsAt.keys {H : Hp} {us : List V} {L : Sta} (h : RowsAt H us L) : KeyAll H (L.map fun r => NestedKey.tup (r.map fun d : Nat => .num (d : Int))) us := by
  unfold RowsAt at h
  induction h with
  | nil => exact .no
  | cons a r ih =>
    obtain ⟨c, rfl, hc⟩ := a
    exact .on (.tup hc (keys_num H _)) ih
theorem StaAt.key {H : Hp} {a : Addr} {L : Sta} (h : StaAt H a L) : KeyAt H (nk L) (.ref a) := by
  obtain ⟨us, h1, h2⟩ := h
  exact .tup h1 h2.keys
theorem depth_nums : ∀ (r : List Nat), NestedKey.depthAll (r.map fun d : Nat => NestedKey.num (d : Int)) = 0
  | [] => by rw [List.map_nil, NestedKey.depthAll]
  | d :: r => by rw [List.map_cons, NestedKey.depthAll, depth_nums r, NestedKey.depth]; rfl
theorem depth_rows : ∀ (L : Sta), NestedKey.depthAll (L.map fun r => NestedKey.tup (r.map fun d : Nat => .num (d : Int))) ≤ 1
  | [] => by rw [List.map_nil, NestedKey.depthAll]; omega
  | r :: L => by
    rw [List.map_cons, NestedKey.depthAll, NestedKey.depth, depth_nums r]
    exact Nat.max_le.mpr ⟨Nat.le_refl _, depth_rows L⟩
theorem nk_deep (L : Sta) : (nk L).depth ≤ 8 := by
  unfold nk
  rw [NestedKey.depth]
  have := depth_rows L
  omega
theorem num_inj : ∀ {x y : List Nat}, (x.map fun d : Nat => NestedKey.num (d : Int)) = (y.map fun d : Nat => NestedKey.num (d : Int)) → x = y
  | [], [], _ => rfl
  | [], _ :: _, h => nomatch h
  | _ :: _, [], h => nomatch h
  | a :: x, b :: y, h => by
    obtain ⟨h1, h2⟩ := List.cons.inj h
    have := NestedKey.num.inj h1
    rw [num_inj h2, show a = b by omega]
theorem rows_inj : ∀ {x y : Sta}, (x.map fun r => NestedKey.tup (r.map fun d : Nat => .num (d : Int))) = (y.map fun r => NestedKey.tup (r.map fun d : Nat => .num (d : Int))) → x = y
  | [], [], _ => rfl
  | [], _ :: _, h => nomatch h
  | _ :: _, [], h => nomatch h
  | a :: x, b :: y, h => by
    obtain ⟨h1, h2⟩ := List.cons.inj h
    rw [rows_inj h2, num_inj (NestedKey.tup.inj h1)]
theorem nk_inj {L M : Sta} (h : nk L = nk M) : L = M := rows_inj (NestedKey.tup.inj h)
section
variable {P : Program} {w : World} {K : PySem.W.Frag} {mg : Str → Option Value} {base : Heap}
/-! ### _ascending -/
def spAsc (K : PySem.W.Frag) : Sp := fun vs H Q _ => ∃ (l : Addr) (ns : List Int), vs = [.ref l] ∧ SqL K H l (ns.map V.int) ∧ ns.length ≤ 4000 ∧ (∀ z ∈ ns, 0 ≤ z ∧ z < 60) ∧ ∀ H' t, Same H H' → H t = none → H' t = some (.tup (nV (ascL ns))) → Q (.ref t) H'
theorem ok_ascending {f : Addr} {fd : FuncData} {k : Nat} (F : Fun K "_ascending" "_ascending" s_ascending f fd) (m1 : mg "tuple" = none) (m2 : mg "sorted" = none) (m3 : mg "set" = none) : FnOk P w K mg base CX0 (k + 1) f fd ["numbers"] (spAsc K) := by
  refine F.ok sc_ascending (fun vs H Q E h => ?_) (fun cdv A outer s H vs Q E hr h => ?_)
  · obtain ⟨l, ns, rfl, _⟩ := h; rfl
  · obtain ⟨l, ns, rfl, hl, ln, hz, q⟩ := h
    refine ⟨_, pss_one (ps_ret (pe_callTy call_tuple_of (by rfl) m1 (by decide +kernel) (pa_cons (pe_callB (cr_sortedSet rfl) (by rfl) m2 (by decide +kernel) (pa_cons (pe_callTy (cr_setL rfl) (by rfl) m3 (by decide +kernel) (pa_cons (pv 0) pa_nil)) pa_nil)) pa_nil))), ?_⟩
    refine ⟨.ref l, rfl, l, ns, rfl, hl, ln, fun p n np hn => ?_⟩
    have e1 := same_new (o := SetO w p (fun j => decide (j ∈ ns)) n) np
    have hn60 : n ≤ 60 := by
      have := hn ((List.range 60).map fun d : Nat => (d : Int)) fun k hk => by
        have := hz k hk
        exact List.mem_map.mpr ⟨k.toNat, List.mem_range.mpr (by omega), Int.toNat_of_nonneg this.1⟩
      rw [List.length_map, List.length_range] at this
      exact this
    refine ⟨p, _, n, rfl, upd_same, by omega, fun ms r hms hmem hlen nr => ?_⟩
    have e2 := same_new (o := .lst (ms.map V.int)) nr
    have em : ms = nI (ascL ns) := ascL_uniq hms (fun z => by rw [hmem, decide_eq_true_eq]) hz
    refine ⟨r, _, rfl, .inl ⟨.of upd_same, fun t nt => ?_⟩⟩
    have e3 := same_new (o := .tup (ms.map V.int)) nt
    refine q _ t ((e1.trans e2).trans e3) (freeS (e1.trans e2) nt) ?_
    rw [upd_same, em, ← nV_eq]
/-! ### _delays -/
abbrev delOne (k : Nat) (ago : Int) (bs : List Nat) : List Int := (bs.filter fun b : Nat => decide (ago ≤ (b : Int))).map fun b : Nat => (b : Int) - ago
def delAll (ws : List (List Int)) (k : Nat) (sts : List (Int × Nat)) : List Int := sts.flatMap fun s => delOne k s.1 (barsN (wkS ws s.2) (wkS ws k))
abbrev pairD (s : Int × Nat) : PyData := .tuple [.int s.1, .int (s.2 : Nat)]
def spDelays (K : PySem.W.Frag) (C : Addr) : Sp := fun vs H Q _ => ∃ (a l : Addr) (ws : List (List Int)) (sts : List (Int × Nat)) (us : List V) (k : Nat), vs = [.ref a, .ref l, .int k] ∧ LineAt K C H a ws ∧ H l = some (.lst us) ∧ TpAll K H us (sts.map pairD) ∧ (∀ s ∈ sts, s.2 < ws.length) ∧ k < ws.length ∧ sts.length ≤ 60 ∧
  ∀ H' D, Same H H' → H D = none → H' D = some (.lst ((delAll ws k sts).map V.int)) → Q (.ref D) H'
theorem barsN_len60 {one other : List Int} (h : one.length ≤ 60) : (barsN one other).length ≤ 60 := by
  have := barsTo_len one other (one.length - 1)
  exact Nat.le_trans this (by omega)
abbrev delN : List Str := ["line", "started", "kind", "ago", "other", "bar"]
theorem ok_delays {f C : Addr} {fd : FuncData} {k : Nat} (F : Fun K "_delays" "_delays" s_delays f fd) (M : Meths P w K mg base k C) : FnOk P w K mg base CX0 (k + 3) f fd ["line", "started", "kind"] (spDelays K C) := by
  refine F.ok sc_delays (fun vs H Q E h => ?_) (fun cdv A outer s H vs Q E hr h => ?_)
  · obtain ⟨a, l, ws, sts, us, kk, rfl, _⟩ := h; rfl
  · obtain ⟨a, l, ws, sts, us, kk, rfl, hL, hl, hT, hs, hk, l60, q⟩ := h
    refine ⟨_, pss_one (ps_ret (pe_lc2 (own := [("ago", 3), ("other", 4), ("bar", 5)]) (vs1 := [5]) (g := gTup K 2 (gCons (gName 3) (gCons (gName 4) gNil))) (g1 := gName 5) (tt := tYes) rfl sc_delays.nd (pi_list (pv 1))
          (blkOk_by (N := delN) (sc := defScope s_delays) (by decide +kernel)) (by decide)
          (fun _ _ _ _ _ => pg_tup rfl (pgs_cons (pg_name (i := 3) sc_delays.nd rfl (Or.inl rfl)) (pgs_cons (pg_name (i := 4) sc_delays.nd rfl (Or.inl rfl)) pgs_nil)))
          (fun _ _ _ _ _ => pts_nil)
          (fun _ _ _ _ _ => pi_tupK (K := K) rfl (M.pCall (K := K) rfl hr (pv 0) (pa_cons (pv 4) (pa_cons (pv 2) pa_nil))))
          (fun _ _ _ _ _ => pg_name (i := 5) sc_delays.nd rfl (Or.inl rfl))
          (fun _ _ _ _ _ => pts_one (pt_cmpR op_ge (pv 5) (pv 3) (nomark _)))
          (fun _ _ _ _ _ => pe_op op_sub (pv 5) (pv 3)))), ?_⟩
    have big : 4000 ≤ sizeLine := by rw [sizeLine_eq]; decide
    have w60 : ∀ o, (barsN (wkS ws o) (wkS ws kk)).length ≤ 60 := fun o => by
      refine barsN_len60 ?_
      unfold wkS
      rw [List.getD_eq_getElem?_getD]
      rcases e : ws[o]? with _ | x
      · exact Nat.zero_le _
      · exact (hL.good.work x (List.mem_of_getElem? e)).most
    have lus : us.length = sts.length := by have := hT.len; rwa [List.length_map] at this
    have lall : ∀ (ss : List (Int × Nat)), (delAll ws kk ss).length ≤ 60 * ss.length := by
      intro ss
      induction ss with
      | nil => exact Nat.le_refl _
      | cons s r ih =>
        show (delOne kk s.1 (barsN (wkS ws s.2) (wkS ws kk)) ++ delAll ws kk r).length ≤ _
        rw [List.length_append, List.length_cons]
        have h1 : (delOne kk s.1 (barsN (wkS ws s.2) (wkS ws kk))).length ≤ 60 := by
          rw [List.length_map]
          exact Nat.le_trans (List.length_filter_le _ _) (w60 _)
        omega
    refine ⟨.ref l, rfl, l, rfl, ⟨_, .of hl⟩, fun D nD => ?_⟩
    refine it_any (walk_list (K := K) (a := l) (xs := us)) _ (fun i H' => Same H H' ∧ H' D = some (.lst ((delAll ws kk (sts.take i)).map V.int))) ⟨same_new nD, upd_same⟩ (fun i H' _ h => .of (h.1 _ _ hl)) (fun i x H2 H' hi h hY => ?_) (fun H' h => ?_)
    · obtain ⟨e2, hD2⟩ := h
      obtain ⟨rfl, hx⟩ := hY
      obtain ⟨dd, hdd, tt⟩ := hT.at hx
      rw [List.getElem?_map] at hdd
      obtain ⟨s, hs2, rfl⟩ := Option.map_eq_some_iff.mp hdd
      obtain ⟨c, rfl, hc⟩ := Tp.toInts (ns := [s.1, (s.2 : Nat)]) tt
      have hso := hs s (List.mem_of_getElem? hs2)
      have hil := (List.getElem?_eq_some_iff.mp hs2).1
      obtain ⟨x1, hx1⟩ : ∃ x, ws[s.2]? = some x := ⟨ws[s.2], List.getElem?_eq_getElem hso⟩
      obtain ⟨x2, hx2⟩ : ∃ x, ws[kk]? = some x := ⟨ws[kk], List.getElem?_eq_getElem hk⟩
      have ex1 : wkS ws s.2 = x1 := by unfold wkS; rw [List.getD_eq_getElem?_getD, hx1]; rfl
      have ex2 : wkS ws kk = x2 := by unfold wkS; rw [List.getD_eq_getElem?_getD, hx2]; rfl
      have etk : delAll ws kk (sts.take (i + 1)) = delAll ws kk (sts.take i) ++ delOne kk s.1 (barsN x1 x2) := by
        rw [List.take_add_one, hs2]
        unfold delAll
        rw [List.flatMap_append, ← ex1, ← ex2]
        show _ ++ (delOne kk s.1 _ ++ []) = _
        rw [List.append_nil]
      have l1 := lall (sts.take i)
      rw [List.length_take] at l1
      refine ⟨c, _, rfl, Same.tup e2 hc, rfl, _, _, rfl, _, _, rfl, rfl, rfl, .ref a, rfl, a, rfl, .int (s.2 : Nat), rfl, .int (kk : Nat), rfl, ws, s.2, kk, x1, x2, rfl, hL.stay (.of e2), hx1, hx2, fun b hb => ?_⟩
      refine ⟨b, rfl, ⟨_, hb⟩, ?_⟩
      refine it_any (walk_tup (K := K) (a := b) (xs := nV (barsN x1 x2))) _ (fun j H' => Same H H' ∧ SqT K H' b (nV (barsN x1 x2)) ∧ H' D = some (.lst ((delAll ws kk (sts.take i) ++ delOne kk s.1 ((barsN x1 x2).take j)).map V.int)))
        ⟨e2, hb, by rw [show delOne kk s.1 ((barsN x1 x2).take 0) = [] from rfl, List.append_nil]; exact hD2⟩ (fun j H' _ h => h.2.1) (fun j x H3 H' hj h hY => ?_) (fun H' h => ?_)
      · obtain ⟨e3, hb3, hD3⟩ := h
        obtain ⟨rfl, hx⟩ := hY
        rw [List.getElem?_map] at hx
        obtain ⟨d, hd, rfl⟩ := Option.map_eq_some_iff.mp hx
        have hjl := (List.getElem?_eq_some_iff.mp hd).1
        have htk : (barsN x1 x2).take (j + 1) = (barsN x1 x2).take j ++ [d] := by rw [List.take_add_one, hd]; rfl
        have hb60 : (barsN x1 x2).length ≤ 60 := by rw [← ex1, ← ex2]; exact w60 _
        refine ⟨rfl, .int (d : Nat), rfl, .int s.1, rfl, _, _, rfl, rfl, _, rfl, ite2 (fun e => ?_) (fun e => ?_)⟩
        · have e' : s.1 ≤ (d : Int) := of_decide_eq_true e
          have edel : delOne kk s.1 ((barsN x1 x2).take (j + 1)) = delOne kk s.1 ((barsN x1 x2).take j) ++ [(d : Int) - s.1] := by
            rw [htk]
            show (((barsN x1 x2).take j ++ [d]).filter _).map _ = _
            rw [List.filter_append, List.map_append, show [d].filter (fun b : Nat => decide (s.1 ≤ (b : Int))) = [d] from List.filter_cons_of_pos (decide_eq_true e')]
            rfl
          refine ⟨.int (d : Nat), rfl, .int s.1, rfl, _, _, rfl, rfl, _, hD3, ?_, fun y o z => ?_, tup_upd hD3 (fun _ z => nomatch z) (fun _ _ z => nomatch z) hb3, ?_⟩
          · rw [List.length_map, List.length_append, List.length_map]
            have := List.length_filter_le (fun b : Nat => decide (s.1 ≤ (b : Int))) ((barsN x1 x2).take j)
            rw [List.length_take] at this
            omega
          · rw [upd_ne (ne_of_none z nD)]
            exact e3 _ _ z
          · rw [upd_same, edel, ← List.append_assoc, List.map_append (l₂ := [(d : Int) - s.1])]
            rfl
        · have e' : ¬ s.1 ≤ (d : Int) := fun z => e (decide_eq_true z)
          have edel : delOne kk s.1 ((barsN x1 x2).take (j + 1)) = delOne kk s.1 ((barsN x1 x2).take j) := by
            rw [htk]
            show (((barsN x1 x2).take j ++ [d]).filter _).map _ = _
            rw [List.filter_append, show [d].filter (fun b : Nat => decide (s.1 ≤ (b : Int))) = [] from List.filter_cons_of_neg (by rw [decide_eq_true_eq]; exact e'), List.append_nil]
          refine ⟨e3, hb3, ?_⟩
          rw [edel]
          exact hD3
      · obtain ⟨e3, _, hD3⟩ := h
        refine ⟨e3, ?_⟩
        rw [nV_len', List.take_length] at hD3
        rw [etk]
        exact hD3
    · rw [lus, List.take_length] at h
      exact q H' D h.1 nD h.2
end
end Sg
set_option Elab.async false
set_option linter.all false
set_option maxRecDepth 100000
set_option maxHeartbeats 4000000
namespace Sg
open PySem PySem.Spec PyProof.Rows L2 StX
/-! ## one tick on -/
def chI : Option Nat → Int
  | none => -1
  | some k => k
def stsOf : Option Nat → List (Int × Nat)
  | none => []
  | some k => [(1, k)]
def keptI (r : List Nat) : List Int := (r.filter fun d => decide (0 < d)).map fun d : Nat => (d : Int) - 1
theorem keptI_mem {r : List Nat} {z : Int} : z ∈ keptI r ↔ ∃ d ∈ r, 0 < d ∧ z = (d : Int) - 1 := by
  unfold keptI
  constructor
  · intro h
    obtain ⟨d, hd, rfl⟩ := List.mem_map.mp h
    obtain ⟨h1, h2⟩ := List.mem_filter.mp hd
    exact ⟨d, h1, of_decide_eq_true h2, rfl⟩
  · rintro ⟨d, h1, h2, rfl⟩
    exact List.mem_map.mpr ⟨d, List.mem_filter.mpr ⟨h1, decide_eq_true h2⟩, rfl⟩
theorem delAll_mem {ws : List (List Int)} {k : Nat} {sts : List (Int × Nat)} {z : Int} : z ∈ delAll ws k sts ↔ ∃ s ∈ sts, ∃ b ∈ barsN (wkS ws s.2) (wkS ws k), s.1 ≤ (b : Int) ∧ z = (b : Int) - s.1 := by
  unfold delAll
  rw [List.mem_flatMap]
  constructor
  · rintro ⟨s, hs, h⟩
    obtain ⟨b, hb, rfl⟩ := List.mem_map.mp h
    obtain ⟨h1, h2⟩ := List.mem_filter.mp hb
    exact ⟨s, hs, b, h1, of_decide_eq_true h2, rfl⟩
  · rintro ⟨s, hs, b, hb, h1, rfl⟩
    exact ⟨s, hs, List.mem_map.mpr ⟨b, List.mem_filter.mpr ⟨hb, decide_eq_true h1⟩, rfl⟩⟩
theorem next_asc {ws : List (List Int)} {L : Sta} {c : Option Nat} {k : Nat} : (List.range 60).filter (nextB ws L c k) = ascL (keptI (rowS L k) ++ delAll ws k (stsOf c)) := by
  unfold ascL
  refine List.filter_congr fun d _ => ?_
  rw [Bool.eq_iff_iff]
  unfold nextB
  rw [Bool.or_eq_true, decide_eq_true_eq, decide_eq_true_eq, List.mem_append, keptI_mem, delAll_mem]
  constructor
  · rintro (h | h)
    · exact .inl ⟨d + 1, h, by omega, by omega⟩
    · right
      cases c with
      | none => cases h
      | some o => exact ⟨(1, o), List.mem_singleton.mpr rfl, d + 1, of_decide_eq_true h, by show (1 : Int) ≤ _; omega, by show _ = _ - (1 : Int); omega⟩
  · rintro (⟨e, h1, h2, h3⟩ | ⟨s, hs, b, hb, h1, h2⟩)
    · left
      rw [show d + 1 = e by omega]; exact h1
    · right
      cases c with
      | none => exact nomatch hs
      | some o =>
        obtain rfl := List.mem_singleton.mp hs
        have h1 : (1 : Int) ≤ (b : Int) := h1
        have h2 : (d : Int) = (b : Int) - 1 := h2
        refine decide_eq_true ?_
        rw [show d + 1 = b by omega]
        exact hb
theorem rowS_at {L : Sta} {k : Nat} {r : List Nat} (h : L[k]? = some r) : rowS L k = r := by
  unfold rowS
  rw [List.getD_eq_getElem?_getD, h]; rfl
section
variable {P : Program} {w : World} {K : PySem.W.Frag} {mg : Str → Option Value} {base : Heap}
/-! ### _behind -/
def spBehind (K : PySem.W.Frag) (C : Addr) : Sp := fun vs H Q _ => ∃ (a s : Addr) (ws : List (List Int)) (L : Sta) (c : Option Nat) (R : Nat), vs = [.ref a, .ref s, .int (chI c)] ∧ LineAt K C H a ws ∧ StaAt H s L ∧ Rea ws R ∧ R ≤ 60 ∧ FormL ws R L ∧ (∀ k, c = some k → k < ws.length) ∧
  ∀ H' t, Same H H' → H t = none → StaAt H' t (nextL ws L c) → Q (.ref t) H'
abbrev behN : List Str := ["line", "state", "choice", "started", "found", "kind", "delays", "kept", "delay"]
theorem ok_behind {f f1 f2 C : Addr} {fd fd1 fd2 : FuncData} {k : Nat} (F : Fun K "_behind" "_behind" s_behind f fd) (nN : ∃ t, mg "NOTHING" = some (.int (-1) t))
    (G1 : FnOk P w K mg base CX0 k f1 fd1 ["line", "started", "kind"] (spDelays K C)) (kp1 : PySem.W.keepIn K (.ref f1) = true) (b1 : Binds K fd1 ["line", "started", "kind"] []) (g1 : mg "_delays" = some (.ref f1))
    (G2 : FnOk P w K mg base CX0 k f2 fd2 ["numbers"] (spAsc K)) (kp2 : PySem.W.keepIn K (.ref f2) = true) (b2 : Binds K fd2 ["numbers"] []) (g2 : mg "_ascending" = some (.ref f2))
    (m1 : mg "enumerate" = none) (m2 : mg "tuple" = none) : FnOk P w K mg base CX0 (k + 1) f fd ["line", "state", "choice"] (spBehind K C) := by
  obtain ⟨tN, nN⟩ := nN
  refine F.ok sc_behind (fun vs H Q E h => ?_) (fun cdv A outer s H vs Q E hr h => ?_)
  · obtain ⟨a, s, ws, L, c, R, rfl, _⟩ := h; rfl
  · obtain ⟨a, st, ws, L, c, R, rfl, hL, hS, hR, R6, hF, hc, q⟩ := h
    refine ⟨_, pss_cons (ps_set (i := 3) sc_behind.nd rfl (.inl rfl) (pe_ifExp (pt_cmpR op_eq (pv 2) (pe_glob (v := .int (-1)) (by rfl) nN ⟨_, rfl⟩) (nomark _)) (pe_lst pa_nil) (pe_lst (pa_cons (pe_tup (pa_cons pe_int (pa_cons (pv 2) pa_nil))) pa_nil))))
      (pss_cons (ps_set (i := 4) sc_behind.nd rfl (.inl rfl) (pe_lst pa_nil))
      (pss_cons (ps_for PassesOwn.never rfl (pi_enumT (by rfl) m1 (pa_cons (pv 1) pa_nil)) (pg_tup rfl (pgs_cons (pg_name (i := 5) sc_behind.nd rfl (.inl rfl)) (pgs_cons (pg_name (i := 6) sc_behind.nd rfl (.inl rfl)) pgs_nil)))
        (pss_cons (ps_setLc (i := 7) (own := [("delay", 8)]) (g := gName 8) (by rfl) sc_behind.nd rfl rfl (sw_true rfl rfl rfl (by decide +kernel)) (pi_tup (pv 6)) (blkOk_by (N := behN) (sc := defScope s_behind) (by decide +kernel))
          (fun _ _ _ _ _ => pg_name (i := 8) sc_behind.nd rfl (Or.inl rfl)) (fun _ _ _ _ _ => pts_one (pt_cmpR op_gt (pv 8) pe_int (nomark _))) (fun _ _ _ _ _ => pe_op op_sub (pv 8) pe_int))
        (pss_one (ps_expr (pe_bm PySem.F.plainAttrs_list PySem.F.slot_list_append PySem.F.type_list_append mt_append (pv 4) (pa_cons (pe_call G2 hr (by rfl) g2 kp2 b2 .nil pass0 (pa_cons
          (pe_op op_cat (pv 7) (pe_call G1 hr (by rfl) g1 kp1 b1 .nil pass0 (pa_cons (pv 0) (pa_cons (pv 3) (pa_cons (pv 5) pa_nil))))) pa_nil)) pa_nil))))))
      (pss_one (ps_ret (pe_callTy call_tuple_of (by rfl) m2 (by decide +kernel) (pa_cons (pv 4) pa_nil)))))), ?_⟩
    have big : 4000 ≤ sizeLine := by rw [sizeLine_eq]; decide
    have few := hL.good.few
    obtain ⟨us, hus, hrows⟩ := hS
    have lus := hrows.len
    have ll := hF.len
    -- the started pieces
    refine ⟨.int (chI c), rfl, rfl, _, rfl, ite2 (fun e => ?a) (fun e => ?b)⟩
    case' a =>
      have c0 : c = none := by
        cases c with
        | none => rfl
        | some k => have h : ((k : Nat) : Int) = -1 := V.int.inj (of_decide_eq_true e); omega
      refine ⟨by show 0 ≤ sizeLine; omega, fun l nl => ?_⟩
      have e1 : Same H (L2.upd H l (.lst [])) := same_new nl
      have hl1 := upd_same (H := H) (a := l) (o := .lst [])
      have hT1 : TpAll K (L2.upd H l (.lst [])) [] ((stsOf c).map pairD) := by rw [c0]; exact .no
      generalize L2.upd H l (.lst []) = H1 at e1 hl1 hT1 ⊢
      obtain ⟨vs1, hv1⟩ : ∃ vs1 : List V, vs1 = [] := ⟨_, rfl⟩
      rw [← hv1] at hl1 hT1
    case' b =>
      obtain ⟨kk, ck⟩ : ∃ kk, c = some kk := by
        cases c with
        | none => exact absurd (decide_eq_true rfl) e
        | some k => exact ⟨k, rfl⟩
      refine ⟨.int (chI c), rfl, by show 2 ≤ sizeLine; omega, fun t nt => ?_⟩
      have s1 := same_new (o := .tup [V.int 1, .int (chI c)]) nt
      have ht1 := upd_same (H := H) (a := t) (o := .tup [V.int 1, .int (chI c)])
      generalize L2.upd H t (.tup [V.int 1, .int (chI c)]) = H0 at s1 ht1 ⊢
      refine ⟨by show 1 ≤ sizeLine; omega, fun l nl => ?_⟩
      have s2 := same_new (o := .lst [V.ref t]) nl
      have hl1 := upd_same (H := H0) (a := l) (o := .lst [V.ref t])
      have ht2 := s2 _ _ ht1
      have e1 := s1.trans s2
      generalize L2.upd H0 l (.lst [V.ref t]) = H1 at s2 hl1 ht2 e1 ⊢
      have hT1 : TpAll K H1 [V.ref t] ((stsOf c).map pairD) := by
        rw [ck] at ht2 ⊢
        exact .on (Tp.ofInts (ns := [1, (kk : Nat)]) (.of ht2)) .no
      obtain ⟨vs1, hv1⟩ : ∃ vs1 : List V, vs1 = [V.ref t] := ⟨_, rfl⟩
      rw [← hv1] at hl1 hT1
      clear nl ht1 ht2 s1 s2 nt
    all_goals
      refine ⟨by show 0 ≤ sizeLine; omega, fun D nD => ?_⟩
      have e2 := same_new (o := .lst []) nD
      have hD2 := upd_same (H := H1) (a := D) (o := .lst [])
      have nDH : H D = none := freeS e1 nD
      have nDl : l ≠ D := ne_of_none hl1 nD
      have hl2 := e2 _ _ hl1
      have e12 := e1.trans e2
      have hT2 := hT1.stay (.of e2)
      generalize L2.upd H1 D (.lst []) = H2 at e2 hD2 hl2 e12 hT2 ⊢
      refine ⟨.ref st, rfl, st, us, rfl, .inl (.inl (e12 _ _ hus)), ?_⟩
      refine for_it (walk_enumT (xs := us)) (fun i σ H' => ∃ v5 v6 v7 v8 vs, σ = [some (.ref a), some (.ref st), some (.int (chI c)), some (.ref l), some (.ref D), v5, v6, v7, v8] ∧ Same H H' ∧ H' l = some (.lst vs1) ∧ TpAll K H' vs1 ((stsOf c).map pairD) ∧ H' D = some (.lst vs) ∧ RowsAt H' vs ((nextL ws L c).take i) ∧ vs.length = i)
        ⟨_, _, _, _, [], rfl, e12, hl2, hT2, hD2, .nil, rfl⟩ (fun i σ H' _ h => ?_) (fun i y σ H' H'' hi h hY => ?_) (fun σ H' h => ?_)
      · obtain ⟨_, _, _, _, _, _, e, _⟩ := h
        exact .inl (.inl (e _ _ hus))
      · obtain ⟨v5, v6, v7, v8, vs, rfl, e3, hl3, hT3, hD3, hr3, lv⟩ := h
        obtain ⟨T, x1, x2, rfl, nT, rfl, f1', f2'⟩ := hY
        dsimp only at f1' f2'
        cases f1'
        obtain ⟨cr, r, hr1, rfl, hcr⟩ := hrows.at f2'
        have hil := (List.getElem?_eq_some_iff.mp hr1).1
        have hrow := rowS_at hr1
        have hrlen := hF.row_len R6 r (List.mem_of_getElem? hr1)
        have hrlt := hF.lt r (List.mem_of_getElem? hr1)
        have eT : Same H' (upd H' T (.tup [V.int (i : Nat), .ref cr])) := same_new nT
        refine ⟨T, _, rfl, .of upd_same, rfl, _, _, rfl, _, _, rfl, rfl, ?_⟩
        have e4 := e3.trans eT
        have hl4 := eT _ _ hl3
        have hT4 := hT3.stay (.of eT)
        have hD4 := eT _ _ hD3
        have hr4 := hr3.keep fun _ _ z => eT _ _ z
        have hcr4 := e4 _ _ hcr
        generalize upd H' T (.tup [V.int (i : Nat), .ref cr]) = H4 at e4 hl4 hT4 hD4 hr4 hcr4 ⊢
        refine ⟨.ref cr, rfl, cr, rfl, ⟨_, .inl (.inl hcr4)⟩, fun G nG => ?_⟩
        refine lc_tup (xs := nV r) (fun j H' => Same H4 H' ∧ H' G = some (.lst ((keptI (r.take j)).map V.int))) ⟨same_new nG, upd_same⟩ (fun j H' _ h => .inl (.inl (h.1 _ _ hcr4))) (fun j y H' hy h => ?_) (fun H5 h => ?_)
        · rw [List.getElem?_map] at hy
          obtain ⟨d, hd, rfl⟩ := Option.map_eq_some_iff.mp hy
          have hj := (List.getElem?_eq_some_iff.mp hd).1
          have htk : r.take (j + 1) = r.take j ++ [d] := by rw [List.take_add_one, hd]; rfl
          refine ⟨rfl, .int (d : Nat), rfl, _, _, rfl, rfl, _, rfl, ite2 (fun e => ?_) (fun e => ?_)⟩
          · have e' : 0 < d := by have : (0 : Int) < (d : Int) := of_decide_eq_true e; omega
            have ek : keptI (r.take (j + 1)) = keptI (r.take j) ++ [(d : Int) - 1] := by
              unfold keptI
              rw [htk, List.filter_append, List.map_append, show [d].filter (fun d => decide (0 < d)) = [d] from List.filter_cons_of_pos (decide_eq_true e')]; rfl
            refine ⟨.int (d : Nat), rfl, _, _, rfl, rfl, _, h.2, ?_, fun b o z => ?_, ?_⟩
            · unfold keptI
              rw [List.length_map, List.length_map]
              have := List.length_filter_le (fun d => decide (0 < d)) (r.take j)
              rw [List.length_take] at this
              omega
            · rw [upd_ne (ne_of_none z nG)]
              exact h.1 _ _ z
            · rw [upd_same, ek, List.map_append]; rfl
          · have e' : ¬ 0 < d := fun z => e (decide_eq_true (by show (0 : Int) < (d : Int); omega))
            have ek : keptI (r.take (j + 1)) = keptI (r.take j) := by
              unfold keptI
              rw [htk, List.filter_append, show [d].filter (fun d => decide (0 < d)) = [] from List.filter_cons_of_neg (by rw [decide_eq_true_eq]; exact e'), List.append_nil]
            refine ⟨h.1, ?_⟩
            rw [ek]; exact h.2
        · obtain ⟨e5, hG5⟩ := h
          rw [nV_len', List.take_length] at hG5
          have e45 := e4.trans e5
          have hD5 := e5 _ _ hD4
          have hl5 := e5 _ _ hl4
          have hT5 := hT4.stay (.of e5)
          have kI : (keptI r).length ≤ R := by
            unfold keptI
            rw [List.length_map]
            exact Nat.le_trans (List.length_filter_le _ _) hrlen
          have lst1 : (stsOf c).length ≤ 1 := by cases c <;> simp [stsOf]
          have hin : i < ws.length := by omega
          refine ⟨.ref D, rfl, .inl ⟨rfl, _, .of hD5⟩, .ref G, rfl, .ref a, rfl, .ref l, rfl, .int (i : Nat), rfl, a, l, ws, stsOf c, vs1, i, rfl, hL.stay (.of e45), hl5, hT5, fun s hs => ?_, hin, by omega, fun H6 D6 e6 n6 hD6 => ?_⟩
          · cases c with
            | none => exact nomatch hs
            | some k =>
              rw [List.mem_singleton.mp hs]
              exact hc k rfl
          have ldel : (delAll ws i (stsOf c)).length ≤ 60 := by
            cases c with
            | none => exact Nat.zero_le _
            | some k =>
              show (delOne i 1 _ ++ []).length ≤ 60
              rw [List.append_nil, List.length_map]
              refine Nat.le_trans (List.length_filter_le _ _) (barsN_len60 ?_)
              unfold wkS
              rw [List.getD_eq_getElem?_getD]
              rcases e : ws[k]? with _ | x
              · exact Nat.zero_le _
              · exact (hL.good.work x (List.mem_of_getElem? e)).most
          refine ⟨G, D6, _, _, rfl, rfl, e6 _ _ hG5, hD6, by rw [List.length_map, List.length_map]; omega, fun p np => ?_⟩
          rw [← List.map_append]
          have e7 := same_new (o := .lst ((keptI r ++ delAll ws i (stsOf c)).map V.int)) np
          have hp7 := upd_same (H := H6) (a := p) (o := .lst ((keptI r ++ delAll ws i (stsOf c)).map V.int))
          generalize L2.upd H6 p (.lst ((keptI r ++ delAll ws i (stsOf c)).map V.int)) = H7 at e7 hp7 ⊢
          refine ⟨p, keptI r ++ delAll ws i (stsOf c), rfl, .of hp7, by rw [List.length_append]; omega, fun z hz => ?_, fun H8 t e8 nt8 ht8 => ?_⟩
          · rcases List.mem_append.mp hz with h | h
            · obtain ⟨d, hd, h0, rfl⟩ := keptI_mem.mp h
              have := hrlt d hd
              omega
            · obtain ⟨s, hs, b, hb, h1, rfl⟩ := delAll_mem.mp h
              have hb2 := hR _ _ _ hb
              cases c with
              | none => exact nomatch hs
              | some k =>
                obtain rfl := List.mem_singleton.mp hs
                show 0 ≤ (b : Int) - 1 ∧ (b : Int) - 1 < 60
                have h1 : (1 : Int) ≤ (b : Int) := h1
                omega
          have e58 := (e6.trans e7).trans e8
          have hD8 := e58 _ _ hD5
          have hl8 := e58 _ _ hl5
          have e48 := e45.trans e58
          rw [← hrow, ← next_asc] at ht8
          refine ⟨D, _, _, rfl, rfl, hD8, by rw [lv]; omega, ?_⟩
          have keepT : ∀ b us, H8 b = some (.tup us) → (L2.upd H8 D (.lst (vs ++ [.ref t]))) b = some (.tup us) := fun b us z => by
            rw [upd_ne (ne_of z hD8 (fun c => nomatch c))]
            exact z
          refine ⟨_, _, _, _, vs ++ [.ref t], rfl, fun b o z => ?_, ?_, ?_, upd_same, ?_, by rw [List.length_append, lv]; rfl⟩
          · rw [upd_ne (ne_of_none z nDH)]
            exact e48 _ _ z
          · rw [upd_ne nDl]; exact hl8
          · refine (hT5.stay (.of e58)).stayT fun b xs z => tup_upd hD8 (fun _ z => nomatch z) (fun _ _ z => nomatch z) z
          · have etk : (nextL ws L c).take (i + 1) = (nextL ws L c).take i ++ [(List.range 60).filter (nextB ws L c i)] := by
              rw [List.take_add_one]
              unfold nextL
              rw [List.getElem?_map, List.getElem?_range hin]; rfl
            rw [etk]
            exact ((hr4.keep fun _ _ z => e58 _ _ (e5 _ _ z)).keep keepT).add (keepT _ _ ht8)
      · obtain ⟨v5, v6, v7, v8, vs, rfl, e3, hl3, hT3, hD3, hr3, lv⟩ := h
        rw [lus, ll, List.take_of_length_le (by rw [nextL_len]; exact Nat.le_refl _)] at hr3
        refine ⟨.ref D, rfl, D, _, rfl, .inl ⟨.of hD3, fun t nt => ?_⟩⟩
        have et := same_new (o := .tup vs) nt
        exact q _ t (e3.trans et) (freeS e3 nt) ⟨vs, upd_same, hr3.keep fun _ _ z => et _ _ z⟩
end
end Sg
set_option Elab.async false
set_option linter.all false
set_option maxRecDepth 100000
set_option maxHeartbeats 4000000
namespace Sg
open PySem PySem.Spec PyProof.Rows L2 StX
section
variable {P : Program} {w : World} {K : PySem.W.Frag} {mg : Str → Option Value} {base : Heap}
/-! ### _open_choices -/
/-- the choices as values -/
abbrev chV (ks : List Nat) : List V := V.int (-1) :: nV ks
def spOpen (K : PySem.W.Frag) : Sp := fun vs H Q _ => ∃ (s : Addr) (ws : List (List Int)) (L : Sta) (R : Nat), vs = [.ref s] ∧ StaAt H s L ∧ FormL ws R L ∧ R ≤ 60 ∧ ws.length ≤ 3 ∧
  ∀ H' t, Same H H' → H t = none → H' t = some (.tup (chV (openL ws L))) → Q (.ref t) H'
abbrev openN : List Str := ["state", "kinds", "kind", "delays"]
theorem openL_take {ws : List (List Int)} {L : Sta} (i : Nat) : ((List.range (i + 1)).filter fun k => !decide (0 ∈ rowS L k)) = ((List.range i).filter fun k => !decide (0 ∈ rowS L k)) ++ (if 0 ∈ rowS L i then [] else [i]) := by
  rw [List.range_succ, List.filter_append]
  congr 1
  by_cases h : 0 ∈ rowS L i
  · rw [if_pos h, List.filter_cons_of_neg (by rw [decide_eq_true h]; decide)]; rfl
  · rw [if_neg h, List.filter_cons_of_pos (by rw [decide_eq_false h]; rfl)]; rfl
theorem inV_zero (r : List Nat) : inV (.int 0) (nV r) = decide (0 ∈ r) := by
  unfold inV
  rw [Bool.eq_iff_iff, List.any_eq_true, decide_eq_true_eq]
  constructor
  · rintro ⟨v, hv, e⟩
    obtain ⟨b, hb, rfl⟩ := List.mem_map.mp hv
    have : (b : Int) = 0 := by simpa [eqV] using e
    rw [show 0 = b by omega]
    exact hb
  · intro h
    exact ⟨_, List.mem_map.mpr ⟨0, h, rfl⟩, by simp [eqV]⟩
theorem flat_nV (bs : List Nat) : (nV bs).all flatV = true := by
  rw [List.all_eq_true]
  intro v hv
  obtain ⟨b, _, rfl⟩ := List.mem_map.mp hv
  rfl
theorem ok_open_choices {f : Addr} {fd : FuncData} {k : Nat} (F : Fun K "_open_choices" "_open_choices" s_open_choices f fd) (nN : ∃ t, mg "NOTHING" = some (.int (-1) t)) (m1 : mg "enumerate" = none) :
    FnOk P w K mg base CX0 (k + 1) f fd ["state"] (spOpen K) := by
  obtain ⟨tN, nN⟩ := nN
  refine F.ok sc_open_choices (fun vs H Q E h => ?_) (fun cdv A outer s H vs Q E hr h => ?_)
  · obtain ⟨s, ws, L, R, rfl, _⟩ := h; rfl
  · obtain ⟨st, ws, L, R, rfl, hS, hF, R6, few, q⟩ := h
    refine ⟨_, pss_cons (ps_setLc (i := 1) (own := [("kind", 2), ("delays", 3)]) (g := gTup K 2 (gCons (gName 2) (gCons (gName 3) gNil))) (by rfl) sc_open_choices.nd rfl rfl (sw_true rfl rfl rfl (by decide +kernel)) (pi_enumT (by rfl) m1 (pa_cons (pv 0) pa_nil))
          (blkOk_by (N := openN) (sc := defScope s_open_choices) (by decide +kernel))
          (fun _ _ _ _ _ => pg_tup rfl (pgs_cons (pg_name (i := 2) sc_open_choices.nd rfl (Or.inl rfl)) (pgs_cons (pg_name (i := 3) sc_open_choices.nd rfl (Or.inl rfl)) pgs_nil)))
          (fun _ _ _ _ _ => pts_one (pt_cmpR (op_notInK (K := K) rfl) pe_int (pv 3) (by with_unfolding_all rfl)))
          (fun _ _ _ _ _ => pv 2))
      (pss_one (ps_ret (pe_tup (pa_cons (pe_glob (v := .int (-1)) (by rfl) nN ⟨_, rfl⟩) (pa_star (pv 1) pa_nil))))), ?_⟩
    have big : 4000 ≤ sizeLine := by rw [sizeLine_eq]; decide
    obtain ⟨us, hus, hrows⟩ := hS
    have lus := hrows.len
    have ll := hF.len
    refine ⟨.ref st, rfl, st, us, rfl, .inl (.inl hus), fun D nD => ?_⟩
    refine it_any (walk_enumT (xs := us)) _ (fun i H' => Same H H' ∧ H' D = some (.lst (nV ((List.range i).filter fun k => !decide (0 ∈ rowS L k))))) ⟨same_new nD, upd_same⟩ (fun i H' _ h => .inl (.inl (h.1 _ _ hus))) (fun i x H2 H' hi h hY => ?_) (fun H' h => ?_)
    · obtain ⟨e2, hD2⟩ := h
      obtain ⟨T, x1, x2, rfl, nT, rfl, f1', f2'⟩ := hY
      dsimp only at f1' f2'
      cases f1'
      obtain ⟨cr, r, hr1, rfl, hcr⟩ := hrows.at f2'
      have hrow := rowS_at hr1
      have eT : Same H2 (upd H2 T (.tup [V.int (i : Nat), .ref cr])) := same_new nT
      have hTT : (upd H2 T (.tup [V.int (i : Nat), .ref cr])) T = some (.tup [V.int (i : Nat), .ref cr]) := upd_same
      have hD3 := eT _ _ hD2
      have e3 := e2.trans eT
      have hcr3 := e3 _ _ hcr
      generalize upd H2 T (.tup [V.int (i : Nat), .ref cr]) = H3 at eT hTT hD3 e3 hcr3 ⊢
      refine ⟨T, _, rfl, .of hTT, rfl, _, _, rfl, _, _, rfl, rfl, rfl, .ref cr, rfl, cr, _, rfl, .inr (.inl (.inl hcr3)), rfl, flat_nV r, ?_⟩
      rw [if_pos rfl, inV_zero, ← hrow]
      refine ⟨_, rfl, ite2 (fun e => ?_) (fun e => ?_)⟩
      · have e' : ¬ 0 ∈ rowS L i := by rwa [Bool.not_eq_true', decide_eq_false_iff_not] at e
        refine ⟨.int (i : Nat), rfl, _, hD3, ?_, fun b o z => ?_, ?_⟩
        · unfold nV
          rw [List.length_map]
          have := List.length_filter_le (fun k => !decide (0 ∈ rowS L k)) (List.range i)
          rw [List.length_range] at this
          omega
        · rw [upd_ne (ne_of_none z nD)]
          exact e3 _ _ z
        · rw [upd_same, openL_take (ws := ws), if_neg e']
          unfold nV
          rw [List.map_append]; rfl
      · have e' : 0 ∈ rowS L i := by
          rw [Bool.not_eq_true', decide_eq_false_iff_not] at e
          exact Classical.byContradiction e
        refine ⟨e3, ?_⟩
        rw [openL_take (ws := ws), if_pos e', List.append_nil]
        exact hD3
    · obtain ⟨e2, hD2⟩ := h
      rw [lus, ll] at hD2
      refine ⟨.ref D, rfl, D, _, rfl, .inr (.of hD2), ?_, fun t nt => ?_⟩
      · unfold nV
        rw [List.append_nil, List.length_cons, List.length_map]
        have := List.length_filter_le (fun k => !decide (0 ∈ rowS L k)) (List.range ws.length)
        rw [List.length_range] at this
        omega
      · have et := same_new (o := .tup (V.int (-1) :: (nV ((List.range ws.length).filter fun k => !decide (0 ∈ rowS L k)) ++ []))) nt
        refine q _ t (e2.trans et) (freeS e2 nt) ?_
        rw [upd_same, List.append_nil]
        rfl
/-! ### _empty_state -/
def spEmpty (K : PySem.W.Frag) (C : Addr) : Sp := fun vs H Q _ => ∃ (a : Addr) (ws : List (List Int)), vs = [.ref a] ∧ LineAt K C H a ws ∧ ∀ H' t, Same H H' → H t = none → StaAt H' t (emptyL ws) → Q (.ref t) H'
theorem rows_rep {H : Hp} {c : Addr} (hc : H c = some (.tup [])) : ∀ n, RowsAt H (List.replicate n (V.ref c)) (List.replicate n [])
  | 0 => .nil
  | n + 1 => .cons ⟨c, rfl, hc⟩ (rows_rep hc n)
theorem flat_one (n : Nat) (v : V) : (List.replicate n [v]).flatten = List.replicate n v := by
  induction n with
  | zero => rfl
  | succ n ih => rw [List.replicate_succ, List.flatten_cons, ih]; rfl
theorem ok_empty_state {f C : Addr} {fd : FuncData} {k : Nat} (F : Fun K "_empty_state" "_empty_state" s_empty_state f fd) (M : Meths P w K mg base k C) (m1 : mg "len" = none) : FnOk P w K mg base CX0 (k + 3) f fd ["line"] (spEmpty K C) := by
  refine F.ok sc_empty_state (fun vs H Q E h => ?_) (fun cdv A outer s H vs Q E hr h => ?_)
  · obtain ⟨a, ws, rfl, _⟩ := h; rfl
  · obtain ⟨a, ws, rfl, hL, q⟩ := h
    refine ⟨_, pss_one (ps_ret (pe_op op_repN (pe_tup (pa_cons (pe_tup pa_nil) pa_nil)) (pe_callB (cLenK (K := K) M rfl hr) (by rfl) m1 PySem.boot_len (pa_cons (pv 0) pa_nil)))), ?_⟩
    have few := hL.good.few
    refine ⟨by show 0 ≤ sizeLine; decide, fun c nc => ?_⟩
    have e1 : Same H (L2.upd H c (.tup [])) := same_new nc
    have hc1 := upd_same (H := H) (a := c) (o := .tup [])
    generalize L2.upd H c (.tup []) = H1 at e1 hc1 ⊢
    refine ⟨by show 1 ≤ sizeLine; decide, fun t nt => ?_⟩
    have e2 : Same H1 (L2.upd H1 t (.tup [V.ref c])) := same_new nt
    have ht2 := upd_same (H := H1) (a := t) (o := .tup [V.ref c])
    have hc2 := e2 _ _ hc1
    have ntH : H t = none := freeS e1 nt
    generalize L2.upd H1 t (.tup [V.ref c]) = H2 at e2 ht2 hc2 ⊢
    have e12 := e1.trans e2
    refine ⟨.ref a, rfl, a, ws, rfl, hL.stay (.of e12), t, ws.length, [V.ref c], rfl, rfl, .inl (.inl ht2), by simp, by omega, by show 1 ≤ 1000; decide, fun h1 => ?_, fun h1 p np => ?_⟩
    · refine q H2 t e12 ntH ⟨_, ht2, ?_⟩
      unfold emptyL
      rw [h1]
      exact rows_rep hc2 1
    · have e3 := same_new (o := .tup (List.replicate ws.length [V.ref c]).flatten) np
      refine q _ p (e12.trans e3) (freeS e12 np) ⟨_, upd_same, ?_⟩
      have hh := rows_rep (e3 _ _ hc2) ws.length
      rw [flat_one] at hh ⊢
      exact hh
end
end Sg
set_option Elab.async false
set_option linter.all false
set_option maxRecDepth 100000
set_option maxHeartbeats 4000000
namespace Sg
open PySem PySem.Spec PyProof.Rows L2 StX
/-! ## rows and lists of states -/
def HasL (rs : List Row) (L : Sta) : Prop := ∃ r ∈ rs, r.1 = nk L
theorem atN_some {rs : List Row} {L : Sta} : (atN rs (nk L)).isSome = true ↔ HasL rs L := by
  unfold atN HasL
  rw [Option.isSome_map, List.find?_isSome]
  constructor
  · rintro ⟨r, hr, e⟩; exact ⟨r, hr, of_decide_eq_true e⟩
  · rintro ⟨r, hr, e⟩; exact ⟨r, hr, decide_eq_true e⟩
theorem atN_none {rs : List Row} {L : Sta} (h : ¬ HasL rs L) : atN rs (nk L) = none := by
  rcases e : atN rs (nk L) with _ | v
  · rfl
  · exact absurd (atN_some.mp (by rw [e]; rfl)) h
structure RowsOk (H : Hp) (rs : List Row) (ws : List (List Int)) (R : Nat) : Prop where
  row : ∀ r ∈ rs, ∃ L, r.1 = nk L ∧ StaAt H r.2.1 L ∧ FormL ws R L
  nd : (rs.map (·.1)).Nodup
theorem RowsOk.keep {H H' : Hp} {rs : List Row} {ws : List (List Int)} {R : Nat} (h : RowsOk H rs ws R) (e : ∀ a us, H a = some (.tup us) → H' a = some (.tup us)) : RowsOk H' rs ws R :=
  ⟨fun r hr => let ⟨L, h1, h2, h3⟩ := h.row r hr; ⟨L, h1, h2.keep e, h3⟩, h.nd⟩
theorem RowsOk.keys {H : Hp} {rs : List Row} {ws : List (List Int)} {R : Nat} (h : RowsOk H rs ws R) : KeysIn H rs := fun r hr => by
  obtain ⟨L, h1, h2, h3⟩ := h.row r hr
  rw [h1]
  exact ⟨h2.key, nk_deep L⟩
theorem RowsOk.few {H : Hp} {rs : List Row} {ws : List (List Int)} {R : Nat} (h : RowsOk H rs ws R) (hn : NearR ws.length R) : rs.length ≤ 32768 := by
  have := nodup_len_le (rs.map (·.1)) ((allL ws R).map nk) h.nd fun k hk => by
    obtain ⟨r, hr, rfl⟩ := List.mem_map.mp hk
    obtain ⟨L, h1, _, h3⟩ := h.row r hr
    have R6 : R ≤ 60 := by rcases hn with ⟨_, h⟩ | ⟨_, h⟩ <;> omega
    exact List.mem_map.mpr ⟨L, h3.mem_all R6, h1.symm⟩
  rw [List.length_map, List.length_map] at this
  have := allL_len hn
  omega
theorem RowsOk.add {H : Hp} {rs : List Row} {ws : List (List Int)} {R : Nat} (h : RowsOk H rs ws R) {L : Sta} {b : Addr} {v : V} (hL : StaAt H b L) (hF : FormL ws R L) (n : ¬ HasL rs L) : RowsOk H (rs ++ [(nk L, b, v)]) ws R := by
  refine ⟨fun r hr => ?_, ?_⟩
  · rcases List.mem_append.mp hr with z | z
    · exact h.row r z
    · rw [List.mem_singleton.mp z]; exact ⟨L, rfl, hL, hF⟩
  · rw [List.map_append, List.nodup_append]
    refine ⟨h.nd, List.nodup_cons.mpr ⟨List.not_mem_nil, List.nodup_nil⟩, fun k hk k' hk' e => ?_⟩
    obtain ⟨r, hr, rfl⟩ := List.mem_map.mp hk
    obtain rfl := List.mem_singleton.mp hk'
    exact n ⟨r, hr, e⟩
/-- states in a list: where each stands -/
def StasAt (H : Hp) : List V → List Sta → Prop := Paired fun u L => ∃ b : Addr, u = .ref b ∧ StaAt H b L
theorem StasAt.keep {H H' : Hp} (e : ∀ a us, H a = some (.tup us) → H' a = some (.tup us)) {us : List V} {Ls : List Sta} (h : StasAt H us Ls) : StasAt H' us Ls := by
  unfold StasAt at h ⊢
  induction h with
  | nil => exact .nil
  | cons a r ih =>
    obtain ⟨c, rfl, hc⟩ := a
    exact .cons ⟨c, rfl, hc.keep e⟩ ih
theorem StasAt.add {H : Hp} {us : List V} {Ls : List Sta} (h : StasAt H us Ls) {b : Addr} {L : Sta} (hb : StaAt H b L) : StasAt H (us ++ [.ref b]) (Ls ++ [L]) := Paired.snoc h ⟨b, rfl, hb⟩
theorem StasAt.app {H : Hp} {us vs : List V} {Ls Ms : List Sta} (h : StasAt H us Ls) (g : StasAt H vs Ms) : StasAt H (us ++ vs) (Ls ++ Ms) := by
  unfold StasAt at h g ⊢
  induction h with
  | nil => exact g
  | cons a r ih => exact .cons a ih
theorem StasAt.len {H : Hp} {us : List V} {Ls : List Sta} (h : StasAt H us Ls) : us.length = Ls.length := Paired.length h
theorem StasAt.at {H : Hp} {us : List V} {Ls : List Sta} (h : StasAt H us Ls) : ∀ {i : Nat} {u : V}, us[i]? = some u → ∃ b L, Ls[i]? = some L ∧ u = .ref b ∧ StaAt H b L := by
  unfold StasAt at h
  induction h with
  | nil => intro i u e; exact nomatch e
  | @cons v r vs rs a t ih =>
    intro i u e
    cases i with
    | zero =>
      obtain rfl : v = u := Option.some.inj e
      obtain ⟨b, h1, h2⟩ := a
      exact ⟨b, r, rfl, h1, h2⟩
    | succ i => exact ih e
theorem StasAt.pop {H : Hp} {us : List V} {Ls : List Sta} (h : StasAt H us Ls) (h0 : us ≠ []) : ∃ ms b L, Ls = ms ++ [L] ∧ us[us.length - 1]? = some (.ref b) ∧ StaAt H b L ∧ StasAt H us.dropLast ms := by
  unfold StasAt at h ⊢
  induction h with
  | nil => exact absurd rfl h0
  | @cons v r vs rs a t ih =>
    obtain ⟨b, rfl, hb⟩ := a
    cases t with
    | nil => exact ⟨[], b, r, rfl, rfl, hb, .nil⟩
    | @cons v2 r2 vs2 rs2 a2 t2 =>
      obtain ⟨ms, b', L', e1, e2, h3, h4⟩ := ih (List.cons_ne_nil _ _)
      refine ⟨r :: ms, b', L', by rw [e1]; rfl, ?_, h3, .cons ⟨b, rfl, hb⟩ h4⟩
      exact e2
/-- all choices of a state -/
def chs (ws : List (List Int)) (L : Sta) : List (Option Nat) := none :: (openL ws L).map some
theorem chs_can {ws : List (List Int)} {L : Sta} {c : Option Nat} : c ∈ chs ws L ↔ CanL ws L c := by
  unfold chs
  rw [List.mem_cons]
  cases c with
  | none => exact ⟨fun _ => True.intro, fun _ => .inl rfl⟩
  | some k =>
    constructor
    · rintro (h | h)
      · exact nomatch h
      · obtain ⟨j, hj, e⟩ := List.mem_map.mp h
        obtain rfl := Option.some.inj e
        exact hj
    · intro h
      exact .inr (List.mem_map.mpr ⟨k, h, rfl⟩)
theorem chs_len {ws : List (List Int)} {L : Sta} : (chs ws L).length ≤ ws.length + 1 := by
  unfold chs openL
  rw [List.length_cons, List.length_map]
  have := List.length_filter_le (fun k => !decide (0 ∈ rowS L k)) (List.range ws.length)
  rw [List.length_range] at this
  omega
theorem chV_chs (ws : List (List Int)) (L : Sta) : chV (openL ws L) = (chs ws L).map fun c => V.int (chI c) := by
  unfold chs
  rw [List.map_cons, List.map_map]
  rfl
theorem CanL.lt {ws : List (List Int)} {L : Sta} {c : Option Nat} (h : CanL ws L c) : ∀ k, c = some k → k < ws.length := fun k e => by
  subst e
  exact List.mem_range.mp (List.mem_filter.mp h).1
/-- pairs (choice, state behind it) -/
def PairsAt (H : Hp) (ws : List (List Int)) (L : Sta) : List V → List (Option Nat) → Prop := Paired fun u c => ∃ t b : Addr, u = .ref t ∧ H t = some (.tup [V.int (chI c), .ref b]) ∧ StaAt H b (nextL ws L c)
theorem PairsAt.keep {H H' : Hp} {ws : List (List Int)} {L : Sta} (e : ∀ a us, H a = some (.tup us) → H' a = some (.tup us)) {us : List V} {cs : List (Option Nat)} (h : PairsAt H ws L us cs) : PairsAt H' ws L us cs := by
  unfold PairsAt at h ⊢
  induction h with
  | nil => exact .nil
  | cons a r ih =>
    obtain ⟨t, b, rfl, ht, hb⟩ := a
    exact .cons ⟨t, b, rfl, e _ _ ht, hb.keep e⟩ ih
theorem PairsAt.at {H : Hp} {ws : List (List Int)} {L : Sta} {us : List V} {cs : List (Option Nat)} (h : PairsAt H ws L us cs) : ∀ {i : Nat} {u : V}, us[i]? = some u → ∃ t b c, cs[i]? = some c ∧ u = .ref t ∧ H t = some (.tup [V.int (chI c), .ref b]) ∧ StaAt H b (nextL ws L c) := by
  unfold PairsAt at h
  induction h with
  | nil => intro i u e; exact nomatch e
  | @cons v r vs rs a t ih =>
    intro i u e
    cases i with
    | zero =>
      obtain rfl : v = u := Option.some.inj e
      obtain ⟨t, b, h1, h2, h3⟩ := a
      exact ⟨t, b, r, rfl, h1, h2, h3⟩
    | succ i => exact ih e
/-- a row of moves: a state that is reached, and the list of its pairs -/
def MvRow (H : Hp) (ws : List (List Int)) (r : Row) : Prop := ∃ L G gs, r.1 = nk L ∧ r.2.2 = V.ref G ∧ H G = some (.lst gs) ∧ PairsAt H ws L gs (chs ws L) ∧ Rchd ws L
def RowsV (W : Addr) (H : Hp) (ws : List (List Int)) (rs : List Row) : Prop := ∀ r ∈ rs, ∃ L G gs, r.1 = nk L ∧ r.2.2 = V.ref G ∧ G ≠ W ∧ H G = some (.lst gs) ∧ PairsAt H ws L gs (chs ws L) ∧ Rchd ws L
theorem RowsV.keep {W : Addr} {H H' : Hp} {ws : List (List Int)} {rs : List Row} (h : RowsV W H ws rs) (kt : ∀ c us, H c = some (.tup us) → H' c = some (.tup us)) (kl : ∀ c xs, c ≠ W → H c = some (.lst xs) → H' c = some (.lst xs)) : RowsV W H' ws rs := fun r hr => by
  obtain ⟨L, G, gs, a1, a2, a3, a4, a5, a6⟩ := h r hr
  exact ⟨L, G, gs, a1, a2, a3, kl _ _ a3 a4, a5.keep kt, a6⟩
section
variable {P : Program} {w : World} {K : PySem.W.Frag} {mg : Str → Option Value} {base : Heap}
/-! ### _moves -/
def spMoves (P : Program) (w : World) (K : PySem.W.Frag) (C : Addr) : Sp := fun vs H Q _ => ∃ (a : Addr) (ws : List (List Int)) (R : Nat), vs = [.ref a] ∧ LineAt K C H a ws ∧ Rea ws R ∧ NearR ws.length R ∧
  ∀ H' m rs, Same H H' → H' m = some (DN P w m rs) → RowsOk H' rs ws R → (∀ r ∈ rs, MvRow H' ws r) → (∀ L, Rchd ws L → HasL rs L) → Q (.ref m) H'
structure MInv (ws : List (List Int)) (rs : List Row) (Ls : List Sta) : Prop where
  first : HasL rs (emptyL ws) ∨ emptyL ws ∈ Ls
  closed : ∀ L c, HasL rs L → CanL ws L c → HasL rs (nextL ws L c) ∨ nextL ws L c ∈ Ls
abbrev movN : List Str := ["line", "moves", "waiting", "state", "choice", "_", "behind"]
theorem ok_moves {f f1 f2 f3 C : Addr} {fd fd1 fd2 fd3 : FuncData} {k : Nat} (F : Fun K "_moves" "_moves" s_moves f fd)
    (G1 : FnOk P w K mg base CX0 k f1 fd1 ["line"] (spEmpty K C)) (kp1 : PySem.W.keepIn K (.ref f1) = true) (b1 : Binds K fd1 ["line"] []) (g1 : mg "_empty_state" = some (.ref f1))
    (G2 : FnOk P w K mg base CX0 k f2 fd2 ["state"] (spOpen K)) (kp2 : PySem.W.keepIn K (.ref f2) = true) (b2 : Binds K fd2 ["state"] []) (g2 : mg "_open_choices" = some (.ref f2))
    (G3 : FnOk P w K mg base CX0 k f3 fd3 ["line", "state", "choice"] (spBehind K C)) (kp3 : PySem.W.keepIn K (.ref f3) = true) (b3 : Binds K fd3 ["line", "state", "choice"] []) (g3 : mg "_behind" = some (.ref f3)) :
    FnOk P w K mg base CX0 (k + 1) f fd ["line"] (spMoves P w K C) := by
  refine F.ok sc_moves (fun vs H Q E h => ?_) (fun cdv A outer s H vs Q E hr h => ?_)
  · obtain ⟨a, ws, R, rfl, _⟩ := h; rfl
  · obtain ⟨a, ws, R, rfl, hL, hR, hN, q⟩ := h
    have hu := hr.units
    refine ⟨_, pss_cons (ps_set (i := 1) sc_moves.nd rfl (.inl rfl) (pe_nnewK (P := P) (w := w) rfl rfl))
      (pss_cons (ps_set (i := 2) sc_moves.nd rfl (.inl rfl) (pe_lst (pa_cons (pe_call G1 hr (by rfl) g1 kp1 b1 .nil pass0 (pa_cons (pv 0) pa_nil)) pa_nil)))
      (pss_cons (ps_while PassesOwn.never (pt_truth (pv 2) (by intro _; rfl))
        (pss_cons (ps_set (i := 3) sc_moves.nd rfl (.inr rfl) (pe_bm0 PySem.F.plainAttrs_list PySem.F.slot_list_pop PySem.F.type_list_pop mt_pop (pv 2)))
        (pss_one (ps_if (pt_cmp (pc_nnotinK (P := P) (w := w) rfl rfl hu (pv 3) (pv 1)))
          (pss_cons (ps_nputK (P := P) (w := w) rfl rfl hu (pv 1) (pv 3) (pe_lc (own := [("choice", 4)]) (g := gName 4) (tt := tYes) rfl sc_moves.nd (pi_tup (pe_call G2 hr (by rfl) g2 kp2 b2 .nil pass0 (pa_cons (pv 3) pa_nil))) (blkOk_by (N := movN) (sc := defScope s_moves) (by decide +kernel))
              (fun _ _ _ _ _ => pg_name (i := 4) sc_moves.nd rfl (Or.inl rfl)) (fun _ _ _ _ _ => pts_nil)
              (fun _ _ _ _ _ => pe_tup (pa_cons (pv 4) (pa_cons (pe_call G3 hr (by rfl) g3 kp3 b3 .nil pass0 (pa_cons (pv 0) (pa_cons (pv 3) (pa_cons (pv 4) pa_nil)))) pa_nil)))) (by rfl))
          (pss_one (ps_expr (pe_bm PySem.F.plainAttrs_list PySem.F.slot_list_extend PySem.F.type_list_extend mt_extend (pv 2) (pa_cons
              (pe_lc (own := [("_", 5), ("behind", 6)]) (g := gTup K 2 (gCons (gName 5) (gCons (gName 6) gNil))) (tt := tYes) rfl sc_moves.nd (pi_list (pe_ngetK (P := P) (w := w) rfl rfl hu (pv 1) (pv 3) (fun _ _ => rfl))) (blkOk_by (N := movN) (sc := defScope s_moves) (by decide +kernel))
                (fun _ _ _ _ _ => pg_tup rfl (pgs_cons (pg_name (i := 5) sc_moves.nd rfl (Or.inl rfl)) (pgs_cons (pg_name (i := 6) sc_moves.nd rfl (Or.inl rfl)) pgs_nil))) (fun _ _ _ _ _ => pts_nil)
                (fun _ _ _ _ _ => pv 6)) pa_nil))))) pss_nil))))
      (pss_one (ps_ret (pv 1))))), ?_⟩
    have big : 400000 ≤ sizeLine := by rw [sizeLine_eq]; decide
    have few := hL.good.few
    have R6 : R ≤ 60 := by rcases hN with ⟨_, h⟩ | ⟨_, h⟩ <;> omega
    refine fun Mv nM => ?_
    have e1 : Same H (L2.upd H Mv (DN P w Mv [])) := same_new nM
    have hM1 := upd_same (H := H) (a := Mv) (o := DN P w Mv [])
    have hL1 : LineAt K C (L2.upd H Mv (DN P w Mv [])) a ws := hL.stay (.of e1)
    generalize L2.upd H Mv (DN P w Mv []) = H1 at e1 hM1 hL1 ⊢
    refine ⟨.ref a, rfl, a, ws, rfl, hL1, fun H2 t0 e2 _ ht0 => ⟨by show 1 ≤ sizeLine; omega, fun W nW => ?_⟩⟩
    have e12 := e1.trans e2
    have e3 : Same H2 (L2.upd H2 W (.lst [.ref t0])) := same_new nW
    have hW3 := upd_same (H := H2) (a := W) (o := .lst [V.ref t0])
    have hM2 := e2 _ _ hM1
    have nMW : Mv ≠ W := ne_of_none hM2 nW
    have nWH : H W = none := freeS e12 nW
    have hM3 := e3 _ _ hM2
    have ht3 := ht0.same e3
    have e13 := e12.trans e3
    generalize L2.upd H2 W (.lst [.ref t0]) = H3 at e3 hW3 hM3 ht3 e13 ⊢
    refine ⟨fun m σ H' => ∃ v3 v4 v5 v6 rs wv Ls, σ = [some (.ref a), some (.ref Mv), some (.ref W), v3, v4, v5, v6] ∧ Same H H' ∧ H' Mv = some (DN P w Mv rs) ∧ RowsOk H' rs ws R ∧ RowsV W H' ws rs ∧ H' W = some (.lst wv) ∧ StasAt H' wv Ls ∧ (∀ L ∈ Ls, FormL ws R L ∧ Rchd ws L) ∧ MInv ws rs Ls ∧ wv.length + 4 * (32768 - rs.length) ≤ 200000 ∧ m = 5 * (32768 - rs.length) + wv.length,
      ⟨_, _, _, _, _, [], [.ref t0], [emptyL ws], rfl, e13, hM3, ⟨(fun r hr => nomatch hr), List.nodup_nil⟩, (fun r hr => nomatch hr), hW3, .cons ⟨t0, rfl, ht3⟩ .nil, fun L h => (by rw [List.mem_singleton.mp h]; exact ⟨FormL.empty ws R, Rchd.empty ws⟩), ⟨.inr (List.mem_singleton.mpr rfl), (fun L c ⟨r, hr, _⟩ => nomatch hr)⟩, by show 1 + 4 * 32768 ≤ 200000; decide, rfl⟩, ?_⟩
    rintro m σ H4 ⟨v3, v4, v5, v6, rs, wv, Ls, rfl, e4, hM4, hrs, hV, hW4, hLs, hfs, hinv, hmax, rfl⟩
    have rfew := hrs.few hN
    refine ⟨.ref W, rfl, !wv.isEmpty, .inl ⟨wv, .of hW4, rfl⟩, ?_⟩
    rcases hwv : wv with _ | ⟨u0, ur⟩
    · refine iteF ⟨.ref Mv, rfl, q H4 Mv rs e4 hM4 hrs (fun r hr => let ⟨L, G, gs, a1, a2, _, a4, a5, a6⟩ := hV r hr; ⟨L, G, gs, a1, a2, a4, a5, a6⟩) fun L hRc => ?_⟩
      have l0 : Ls = [] := List.eq_nil_of_length_eq_zero (by rw [← hLs.len, hwv]; rfl)
      refine hRc.closed (HasL rs) ?_ fun L c hL hc => ?_
      · exact hinv.first.resolve_right (by rw [l0]; exact fun z => nomatch z)
      · exact (hinv.closed L c hL hc).resolve_right (by rw [l0]; exact fun z => nomatch z)
    · rw [← hwv, show (!wv.isEmpty) = true from by rw [hwv]; rfl]
      refine iteT ?_
      have wne : wv ≠ [] := by rw [hwv]; exact List.cons_ne_nil _ _
      obtain ⟨ms, b, L, eLs, hlast, hbL, hms⟩ := hLs.pop wne
      obtain ⟨hFL, hRL⟩ := hfs L (by rw [eLs]; exact List.mem_append.mpr (.inr (List.mem_singleton.mpr rfl)))
      have hdl : wv.dropLast.length = wv.length - 1 := List.length_dropLast
      have wpos : 0 < wv.length := List.length_pos_iff.mpr wne
      refine ⟨fun σ' H' => ∃ v3 v4 v5 v6 rs' wv' Ls', σ' = [some (.ref a), some (.ref Mv), some (.ref W), v3, v4, v5, v6] ∧ Same H H' ∧ H' Mv = some (DN P w Mv rs') ∧ RowsOk H' rs' ws R ∧ RowsV W H' ws rs' ∧ H' W = some (.lst wv') ∧ StasAt H' wv' Ls' ∧ (∀ L ∈ Ls', FormL ws R L ∧ Rchd ws L) ∧ MInv ws rs' Ls' ∧ wv'.length + 4 * (32768 - rs'.length) ≤ 200000 ∧ 5 * (32768 - rs'.length) + wv'.length < 5 * (32768 - rs.length) + wv.length,
        fun σ' H' ⟨v3, v4, v5, v6, rs', wv', Ls', z1, z2, z3, z4, zz, z5, z6, z7, z8, z9, z10⟩ => ⟨_, z10, v3, v4, v5, v6, rs', wv', Ls', z1, z2, z3, z4, zz, z5, z6, z7, z8, z9, rfl⟩, ?_⟩
      refine ⟨.ref W, rfl, .inl ⟨rfl, _, .of hW4⟩, W, wv, .ref b, rfl, rfl, hW4, hlast, ?_⟩
      have keepT : ∀ c us, H4 c = some (.tup us) → (L2.upd H4 W (.lst wv.dropLast)) c = some (.tup us) := fun c us z => by
        rw [upd_ne (ne_of z hW4 (fun c => nomatch c))]; exact z
      have e5 : Same H (L2.upd H4 W (.lst wv.dropLast)) := fun c o z => by
        rw [upd_ne (ne_of_none z nWH)]; exact e4 _ _ z
      have hM5 : (L2.upd H4 W (.lst wv.dropLast)) Mv = some (DN P w Mv rs) := by rw [upd_ne nMW]; exact hM4
      have hW5 := upd_same (H := H4) (a := W) (o := .lst wv.dropLast)
      have hrs5 := hrs.keep keepT
      have hb5 := hbL.keep keepT
      have hms5 := hms.keep keepT
      have hV5 : RowsV W (L2.upd H4 W (.lst wv.dropLast)) ws rs := hV.keep keepT fun c xs nc z => by rw [upd_ne nc]; exact z
      generalize L2.upd H4 W (.lst wv.dropLast) = H5 at keepT e5 hM5 hW5 hrs5 hb5 hms5 hV5 ⊢
      refine ⟨.ref b, rfl, .ref Mv, rfl, Mv, b, nk L, rs, rfl, rfl, ⟨hM5, hrs5.keys, hb5.key, nk_deep L⟩, _, rfl, ?_⟩
      by_cases hin : HasL rs L
      · rw [atN_some.mpr hin]
        refine iteF ⟨_, _, _, _, rs, wv.dropLast, ms, rfl, e5, hM5, hrs5, hV5, hW5, hms5, fun L' h => hfs L' (by rw [eLs]; exact List.mem_append.mpr (.inl h)), ⟨?_, fun L' c h1 h2 => ?_⟩, by omega, by omega⟩
        · rcases hinv.first with h | h
          · exact .inl h
          · rw [eLs] at h
            rcases List.mem_append.mp h with h | h
            · exact .inr h
            · rw [List.mem_singleton.mp h]; exact .inl hin
        · rcases hinv.closed L' c h1 h2 with h | h
          · exact .inl h
          · rw [eLs] at h
            rcases List.mem_append.mp h with h | h
            · exact .inr h
            · rw [List.mem_singleton.mp h]; exact .inl hin
      · rw [atN_none hin]
        refine iteT ?_
        refine ⟨.ref b, rfl, b, ws, L, R, rfl, hb5, hFL, R6, few, fun H6 tc e6 _ htc => ⟨tc, rfl, ⟨_, .inl (.inl htc)⟩, fun G nG => ?_⟩⟩
        have e56 := e5.trans e6
        have nGH : H G = none := freeS e56 nG
        have lch := chs_len (ws := ws) (L := L)
        refine lc_tup (xs := chV (openL ws L)) (fun i H' => Same H6 H' ∧ ∃ gs, H' G = some (.lst gs) ∧ PairsAt H' ws L gs ((chs ws L).take i) ∧ gs.length = i) ⟨same_new nG, [], upd_same, .nil, rfl⟩ (fun i H' _ h => .inl (.inl (h.1 _ _ htc))) (fun i y H' hy h => ?_) (fun H7 h => ?_)
        · obtain ⟨e7, gs, hG7, hP7, lg⟩ := h
          rw [chV_chs, List.getElem?_map] at hy
          obtain ⟨c, hc, rfl⟩ := Option.map_eq_some_iff.mp hy
          have hil := (List.getElem?_eq_some_iff.mp hc).1
          have hcan := chs_can.mp (List.mem_of_getElem? hc)
          refine ⟨rfl, .int (chI c), rfl, .ref a, rfl, .ref b, rfl, .int (chI c), rfl, a, b, ws, L, c, R, rfl, hL.stay (.of (e56.trans e7)), hb5.same (e6.trans e7), hR, R6, hFL, hcan.lt, fun H8 t8 e8 _ ht8 => ⟨by show 2 ≤ sizeLine; omega, fun T nT => ?_⟩⟩
          have hG8 := e8 _ _ hG7
          have eT := same_new (o := .tup [V.int (chI c), .ref t8]) nT
          have hT9 := upd_same (H := H8) (a := T) (o := .tup [V.int (chI c), .ref t8])
          generalize L2.upd H8 T (.tup [V.int (chI c), .ref t8]) = H9 at eT hT9 ⊢
          have hG9 := eT _ _ hG8
          have keep9 : ∀ c us, H9 c = some (.tup us) → (L2.upd H9 G (.lst (gs ++ [.ref T]))) c = some (.tup us) := fun c us z => by
            rw [upd_ne (ne_of z hG9 (fun c => nomatch c))]; exact z
          refine ⟨gs, hG9, by rw [lg]; omega, fun x o z => ?_, gs ++ [.ref T], upd_same, ?_, by rw [List.length_append, lg]; rfl⟩
          · rw [upd_ne (ne_of_none z nG)]
            exact eT _ _ (e8 _ _ (e7 _ _ z))
          · rw [List.take_add_one, hc]
            exact Paired.snoc ((hP7.keep fun _ _ z => eT _ _ (e8 _ _ z)).keep keep9) ⟨T, t8, rfl, keep9 _ _ hT9, (ht8.same eT).keep keep9⟩
        · obtain ⟨e7, gs, hG7, hP7, lg⟩ := h
          rw [chV_chs, List.length_map] at hP7 lg
          rw [List.take_length] at hP7
          have e57 := e6.trans e7
          have eH7 := e5.trans e57
          have hM7 := e57 _ _ hM5
          have hW7 := e57 _ _ hW5
          have hrs7 := hrs5.keep fun _ _ z => e57 _ _ z
          have hb7 := hb5.same e57
          have hms7 := hms5.keep fun _ _ z => e57 _ _ z
          have hV7 : RowsV W H7 ws rs := hV5.keep (fun _ _ z => e57 _ _ z) fun _ _ _ z => e57 _ _ z
          refine ⟨.ref Mv, rfl, .ref b, rfl, Mv, b, nk L, rs, rfl, rfl, ⟨hM7, hrs7.keys, hb7.key, nk_deep L⟩, by omega, ?_⟩
          rw [storeN_new (atN_none hin)]
          have nMG : Mv ≠ G := ne_of_none (e6 _ _ hM5) nG
          have nWG : W ≠ G := ne_of_none (e6 _ _ hW5) nG
          have keep8 : ∀ c us, H7 c = some (.tup us) → (L2.upd H7 Mv (DN P w Mv (rs ++ [(nk L, b, .ref G)]))) c = some (.tup us) := fun c us z => by
            rw [upd_ne (ne_of z hM7 (fun c => nomatch c))]; exact z
          have e8 : Same H (L2.upd H7 Mv (DN P w Mv (rs ++ [(nk L, b, .ref G)]))) := fun c o z => by
            rw [upd_ne (ne_of_none z nM)]; exact eH7 _ _ z
          have hM8 := upd_same (H := H7) (a := Mv) (o := DN P w Mv (rs ++ [(nk L, b, .ref G)]))
          have hW8 : (L2.upd H7 Mv (DN P w Mv (rs ++ [(nk L, b, .ref G)]))) W = some (.lst wv.dropLast) := by rw [upd_ne nMW.symm]; exact hW7
          have hG8 : (L2.upd H7 Mv (DN P w Mv (rs ++ [(nk L, b, .ref G)]))) G = some (.lst gs) := by rw [upd_ne nMG.symm]; exact hG7
          have hb8 := hb7.keep keep8
          have hrs8 := (hrs7.keep keep8).add (v := .ref G) hb8 hFL hin
          have hms8 := hms7.keep keep8
          have hP8 := hP7.keep keep8
          have hV8 : RowsV W (L2.upd H7 Mv (DN P w Mv (rs ++ [(nk L, b, .ref G)]))) ws (rs ++ [(nk L, b, .ref G)]) := fun r hr => by
            rcases List.mem_append.mp hr with hr | hr
            · exact hV7.keep keep8 (fun c xs _ z => by rw [upd_ne (ne_of z hM7 (fun c => nomatch c))]; exact z) r hr
            · rw [List.mem_singleton.mp hr]
              exact ⟨L, G, gs, rfl, rfl, nWG.symm, hG8, hP8, hRL⟩
          generalize L2.upd H7 Mv (DN P w Mv (rs ++ [(nk L, b, .ref G)])) = H8 at keep8 e8 hM8 hW8 hG8 hb8 hrs8 hms8 hP8 hV8 ⊢
          have rfew8 := hrs8.few hN
          rw [List.length_append] at rfew8
          have rfew8 : rs.length + 1 ≤ 32768 := rfew8
          have hat : atN (rs ++ [(nk L, b, V.ref G)]) (nk L) = some (.ref G) := by
            have h0 : rs.find? (fun r => decide (r.1 = nk L)) = none := by
              have := atN_none hin
              unfold atN at this
              exact Option.map_eq_none_iff.mp this
            unfold atN
            rw [List.find?_append, h0, Option.none_or, show [(nk L, b, V.ref G)].find? (fun r => decide (r.1 = nk L)) = some (nk L, b, V.ref G) from List.find?_cons_of_pos (decide_eq_true rfl)]
            rfl
          refine ⟨.ref W, rfl, .inl ⟨rfl, _, .of hW8⟩, .ref Mv, rfl, .ref b, rfl, Mv, b, nk L, _, .ref G, rfl, rfl, ⟨hM8, hrs8.keys, hb8.key, nk_deep L⟩, hat, G, rfl, ⟨_, .of hG8⟩, fun D nD => ?_⟩
          have nWD : W ≠ D := ne_of_none hW8 nD
          refine lc_list (K := K) (a := G) (xs := gs) (fun i H' => Same H8 H' ∧ ∃ ds, H' D = some (.lst ds) ∧ StasAt H' ds (((chs ws L).take i).map (nextL ws L)) ∧ ds.length = i) ⟨same_new nD, [], upd_same, .nil, rfl⟩ (fun i H' _ h => .of (h.1 _ _ hG8)) (fun i y H' hy h => ?_) (fun H9 h => ?_)
          · obtain ⟨e9, ds, hD9, hS9, ld⟩ := h
            obtain ⟨t, bb, c, hc, rfl, ht, hbb⟩ := hP8.at hy
            have hil := (List.getElem?_eq_some_iff.mp hc).1
            refine ⟨t, _, rfl, .of (e9 _ _ ht), rfl, _, _, rfl, _, _, rfl, rfl, rfl, .ref bb, rfl, ds, hD9, by rw [ld]; omega, fun x o z => ?_, ds ++ [.ref bb], upd_same, ?_, by rw [List.length_append, ld]; rfl⟩
            · rw [upd_ne (ne_of_none z nD)]
              exact e9 _ _ z
            · have keepD : ∀ c us, H' c = some (.tup us) → (L2.upd H' D (.lst (ds ++ [.ref bb]))) c = some (.tup us) := fun c us z => by
                rw [upd_ne (ne_of z hD9 (fun c => nomatch c))]; exact z
              rw [List.take_add_one, hc, List.map_append]
              exact (hS9.keep keepD).add ((hbb.same e9).keep keepD)
          · obtain ⟨e9, ds, hD9, hS9, ld⟩ := h
            rw [lg] at hS9 ld
            rw [List.take_length] at hS9
            have hW9 := e9 _ _ hW8
            refine ⟨W, D, wv.dropLast, ds, rfl, rfl, hW9, hD9, by omega, ?_⟩
            have keepW : ∀ c us, H9 c = some (.tup us) → (L2.upd H9 W (.lst (wv.dropLast ++ ds))) c = some (.tup us) := fun c us z => by
              rw [upd_ne (ne_of z hW9 (fun c => nomatch c))]; exact z
            refine ⟨_, _, _, _, _, wv.dropLast ++ ds, ms ++ (chs ws L).map (nextL ws L), rfl, fun c o z => ?_, ?_, (hrs8.keep fun _ _ z => e9 _ _ z).keep keepW, (hV8.keep (fun _ _ z => e9 _ _ z) fun _ _ _ z => e9 _ _ z).keep keepW (fun c xs nc z => by rw [upd_ne nc]; exact z), upd_same, ((hms8.keep fun _ _ z => e9 _ _ z).app hS9).keep keepW, fun L' h => ?_, ⟨?_, fun L' c h1 h2 => ?_⟩, ?_, ?_⟩
            · rw [upd_ne (ne_of_none z nWH)]
              exact e9 _ _ (e8 _ _ z)
            · rw [upd_ne nMW]; exact e9 _ _ hM8
            · rcases List.mem_append.mp h with h | h
              · exact hfs L' (by rw [eLs]; exact List.mem_append.mpr (.inl h))
              · obtain ⟨c, hc, rfl⟩ := List.mem_map.mp h
                exact ⟨hFL.next hR c, hRL.next (chs_can.mp hc)⟩
            · rcases hinv.first with ⟨r, hr, e⟩ | h
              · exact .inl ⟨r, List.mem_append.mpr (.inl hr), e⟩
              · rw [eLs] at h
                rcases List.mem_append.mp h with h | h
                · exact .inr (List.mem_append.mpr (.inl h))
                · rw [List.mem_singleton.mp h]
                  exact .inl ⟨_, List.mem_append.mpr (.inr (List.mem_singleton.mpr rfl)), rfl⟩
            · obtain ⟨r, hr, e⟩ := h1
              rcases List.mem_append.mp hr with hr | hr
              · rcases hinv.closed L' c ⟨r, hr, e⟩ h2 with ⟨r', hr', e'⟩ | h
                · exact .inl ⟨r', List.mem_append.mpr (.inl hr'), e'⟩
                · rw [eLs] at h
                  rcases List.mem_append.mp h with h | h
                  · exact .inr (List.mem_append.mpr (.inl h))
                  · rw [List.mem_singleton.mp h]
                    exact .inl ⟨_, List.mem_append.mpr (.inr (List.mem_singleton.mpr rfl)), rfl⟩
              · rw [List.mem_singleton.mp hr] at e
                obtain rfl := nk_inj e
                exact .inr (List.mem_append.mpr (.inr (List.mem_map.mpr ⟨c, chs_can.mpr h2, rfl⟩)))
            · rw [List.length_append, List.length_append]
              show _ + 4 * (32768 - (rs.length + 1)) ≤ _
              omega
            · rw [List.length_append, List.length_append]
              show 5 * (32768 - (rs.length + 1)) + _ < _
              omega
end
end Sg
set_option Elab.async false
set_option linter.all false
set_option maxRecDepth 100000
set_option maxHeartbeats 4000000
namespace Sg
open PySem PySem.Spec PyProof.Rows L2 StX
/-! ## the reach -/
structure Reach (ws : List (List Int)) (R : Nat) : Prop where
  top : ∀ r, Top (allB ws ws) r → r = (R : Int)
  rea : Rea ws R
theorem max_key : ∀ (l : List Int) (a : Int), (l.foldl max a = a ∨ l.foldl max a ∈ l) ∧ a ≤ l.foldl max a ∧ ∀ x ∈ l, x ≤ l.foldl max a
  | [], a => ⟨.inl rfl, Int.le_refl _, fun x hx => nomatch hx⟩
  | b :: l, a => by
    obtain ⟨g1, g2, g3⟩ := max_key l (max a b)
    refine ⟨?_, by show a ≤ l.foldl max (max a b); omega, fun x hx => ?_⟩
    · show l.foldl max (max a b) = a ∨ l.foldl max (max a b) ∈ b :: l
      rcases g1 with g | g
      · rcases Int.le_total a b with z | z
        · right; rw [g, Int.max_eq_right z]; exact List.mem_cons_self
        · left; rw [g, Int.max_eq_left z]
      · exact .inr (List.mem_cons_of_mem _ g)
    · show x ≤ l.foldl max (max a b)
      rcases List.mem_cons.mp hx with rfl | z
      · omega
      · exact g3 x z
theorem top_is (l : List Int) : Top l (l.foldl max 0) := by
  obtain ⟨g1, g2, g3⟩ := max_key l 0
  exact ⟨g2, g3, g1⟩
theorem wkS_some {ws : List (List Int)} {o : Nat} {b : Nat} {x : List Int} (h : b ∈ barsN (wkS ws o) x) : ∃ y, ws[o]? = some y ∧ wkS ws o = y := by
  rcases e : ws[o]? with _ | y
  · have : wkS ws o = [] := by unfold wkS; rw [List.getD_eq_getElem?_getD, e]; rfl
    rw [this] at h
    exact nomatch h
  · exact ⟨y, rfl, by unfold wkS; rw [List.getD_eq_getElem?_getD, e]; rfl⟩
theorem bars_all {ws : List (List Int)} {o k b : Nat} (h : b ∈ barsN (wkS ws o) (wkS ws k)) : ((b : Nat) : Int) ∈ allB ws ws := by
  obtain ⟨y, hy, ey⟩ := wkS_some h
  have hz : ∃ z, ws[k]? = some z ∧ wkS ws k = z := by
    rcases e : ws[k]? with _ | z
    · have e0 : wkS ws k = [] := by unfold wkS; rw [List.getD_eq_getElem?_getD, e]; rfl
      rw [e0] at h
      have hc := (List.mem_filter.mp h).2
      obtain ⟨j, x, _, h2, _⟩ := clashB_iff.mp hc
      exact nomatch h2
    · exact ⟨z, rfl, by unfold wkS; rw [List.getD_eq_getElem?_getD, e]; rfl⟩
  obtain ⟨z, hz, ez⟩ := hz
  rw [ey, ez] at h
  unfold allB
  refine List.mem_flatMap.mpr ⟨y, List.mem_of_getElem? hy, ?_⟩
  unfold rowB
  exact List.mem_flatMap.mpr ⟨z, List.mem_of_getElem? hz, List.mem_map.mpr ⟨b, h, rfl⟩⟩
theorem exists_reach (ws : List (List Int)) : ∃ R, Reach ws R := by
  have h := top_is (allB ws ws)
  refine ⟨((allB ws ws).foldl max 0).toNat, fun r hr => ?_, fun o k b hb => ?_⟩
  · rw [Int.toNat_of_nonneg h.pos]
    exact hr.uniq h fun _ => Iff.rfl
  · have := h.le _ (bars_all hb)
    omega
section
variable {P : Program} {w : World} {K : PySem.W.Frag} {mg : Str → Option Value} {base : Heap}
/-! ### require_near -/
def spReqNear (K : PySem.W.Frag) (C : Addr) : Sp := fun vs H Q _ => ∃ (a : Addr) (ws : List (List Int)) (R : Nat), vs = [.ref a, .int 8, .int 5] ∧ LineAt K C H a ws ∧ Reach ws R ∧ NearR ws.length R ∧ Q .non H
theorem ok_require_near {f f1 C : Addr} {fd fd1 : FuncData} {k : Nat} {dvs : List V} {kws : List (Str × V)} (F : FunD K "require_near" "require_near" (defArgs s_require_near) (defBody s_require_near) (defScope s_require_near) dvs kws f fd) (M : Meths P w K mg base k C)
    (G1 : FnOk P w K mg base CX0 (k + 2) f1 fd1 ["thing"] (spReqLine K C)) (kp1 : PySem.W.keepIn K (.ref f1) = true) (b1 : Binds K fd1 ["thing"] []) (g1 : mg "require_line" = some (.ref f1)) (m1 : mg "len" = none) :
    FnOk P w K mg base CX0 (k + 3) f fd ["line", "of_one", "of_several"] (spReqNear K C) := by
  refine F.ok sc_require_near (fun vs H Q E h => ?_) (fun cdv A outer s H vs Q E hr h => ?_)
  · obtain ⟨a, ws, R, rfl, _⟩ := h; rfl
  · obtain ⟨a, ws, R, rfl, hL, hR, hN, q⟩ := h
    refine ⟨_, pss_cons (ps_expr (pe_call G1 hr (by rfl) g1 kp1 b1 .nil pass0 (pa_cons (pv 0) pa_nil)))
      (pss_cons (ps_set (i := 3) sc_require_near.nd rfl (.inl rfl) (pe_ifExp (pt_cmpR op_eq (pe_callB (cLenK (K := K) M rfl hr) (by rfl) m1 PySem.boot_len (pa_cons (pv 0) pa_nil)) pe_int (nomark _)) (pv 1) (pv 2)))
      (pss_one (ps_if (pt_cmpR op_gt (M.pReach (K := K) rfl hr (pv 0)) (pv 3) (nomark _)) (pss_one ps_never) pss_nil))), ?_⟩
    have few := hL.good.few
    refine ⟨.ref a, rfl, a, _, rfl, hL, .ref a, rfl, a, _, rfl, hL, rfl, _, rfl, ite2 (fun e => ?_) (fun e => ?_)⟩
    · refine ⟨.int 8, rfl, .ref a, rfl, a, _, rfl, hL, fun r hr => ⟨.int 8, rfl, _, _, rfl, rfl, _, rfl, ite2 (fun e2 => ?_) (fun _ => q)⟩⟩
      have h8 := of_decide_eq_true e2
      have := hR.top r hr
      rcases hN with ⟨_, h⟩ | ⟨_, h⟩ <;> omega
    · have n1 : ws.length ≠ 1 := fun z => e (decide_eq_true (by rw [z]; rfl))
      refine ⟨.int 5, rfl, .ref a, rfl, a, _, rfl, hL, fun r hr => ⟨.int 5, rfl, _, _, rfl, rfl, _, rfl, ite2 (fun e2 => ?_) (fun _ => q)⟩⟩
      have h8 := of_decide_eq_true e2
      have := hR.top r hr
      rcases hN with ⟨h, _⟩ | ⟨_, h⟩
      · exact absurd h n1
      · omega
/-! ### states -/
theorem StasAt.dp {H : Hp} {K : PySem.W.Frag} {us : List V} {Ls : List Sta} (h : StasAt H us Ls) : DpAll K H us (Ls.map sD) := by
  unfold StasAt at h
  induction h with
  | nil => exact .nil
  | cons a r ih =>
    obtain ⟨b, rfl, hb⟩ := a
    exact .cons hb.dp ih
theorem alike_tDs : ∀ (xs ys : List (List Int)), PySem.W.alikeAll (tDs xs) (tDs ys) = true
  | [], _ => by simp [PySem.W.alikeAll]
  | _ :: _, [] => by simp [PySem.W.alikeAll]
  | x :: xs, y :: ys => by
    show PySem.W.alikeAll (tD x :: tDs xs) (tD y :: tDs ys) = true
    rw [PySem.W.alikeAll, alike_tDs xs ys]
    show (PySem.W.alike (.tuple (iD x)) (.tuple (iD y)) && true) = true
    rw [PySem.W.alike, PySem.W.alike_ints]; rfl
theorem depth_sD (L : Sta) : (sD L).depth ≤ 2 := by
  show PyData.depth (.tuple (tDs _)) ≤ 2
  rw [PyData.depth]
  have := dep_tDs (L.map nI)
  omega
theorem stas_of {H : Hp} {Ls : List Sta} : ∀ (bs : List (V × PyData)), (∀ x ∈ bs, ∃ b L, x.1 = .ref b ∧ StaAt H b L ∧ x.2 = sD L ∧ L ∈ Ls) → ∃ Ms, StasAt H (bs.map (·.1)) Ms ∧ bs.map (·.2) = Ms.map sD ∧ ∀ M ∈ Ms, M ∈ Ls
  | [], _ => ⟨[], .nil, rfl, fun M h => nomatch h⟩
  | x :: bs, h => by
    obtain ⟨Ms, h1, h2, h3⟩ := stas_of bs fun y hy => h y (List.mem_cons_of_mem _ hy)
    obtain ⟨b, L, g1, g2, g3, g4⟩ := h x List.mem_cons_self
    refine ⟨L :: Ms, .cons ⟨b, g1, g2⟩ h1, by rw [List.map_cons, List.map_cons, g3, h2], fun M hM => ?_⟩
    rcases List.mem_cons.mp hM with rfl | hM
    · exact g4
    · exact h3 M hM
theorem sD_inj {L M : Sta} (h : sD L = sD M) : L = M := by
  have := eqv_sD L M
  rw [h, eqv_sD, decide_eq_true rfl] at this
  exact of_decide_eq_true this.symm
theorem zip_stas {H : Hp} {us : List V} {Ls : List Sta} (h : StasAt H us Ls) : ∀ x ∈ us.zip (Ls.map sD), ∃ b L, x.1 = .ref b ∧ StaAt H b L ∧ x.2 = sD L ∧ L ∈ Ls := by
  unfold StasAt at h
  induction h with
  | nil => intro x hx; exact nomatch hx
  | @cons v r vs rs a t ih =>
    intro x hx
    obtain ⟨b, rfl, hb⟩ := a
    rcases List.mem_cons.mp hx with rfl | hx
    · exact ⟨b, r, rfl, hb, rfl, List.mem_cons_self⟩
    · obtain ⟨b', L, g1, g2, g3, g4⟩ := ih x hx
      exact ⟨b', L, g1, g2, g3, List.mem_cons_of_mem _ g4⟩
end
end Sg
set_option Elab.async false
set_option linter.all false
set_option maxRecDepth 100000
set_option maxHeartbeats 4000000
namespace Sg
open PySem PySem.Spec PyProof.Rows L2 StX
theorem lt_ints (a b : List Int) : PySem.W.dataLt (tD a) (tD b) = lexI a b := by
  show PySem.W.dataLt (.tuple (iD a)) (.tuple (iD b)) = _
  rw [PySem.W.dataLt_tuple]; exact rowLt_ints a b
/-! ## the states in their order -/
structure Order (ws : List (List Int)) (R : Nat) (Ls : List Sta) : Prop where
  nd : Ls.Nodup
  zero : Ls[0]? = some (emptyL ws)
  rch : ∀ L ∈ Ls, Rchd ws L
  form : ∀ L ∈ Ls, FormL ws R L
  all : ∀ L, Rchd ws L → L ∈ Ls
  few : Ls.length ≤ 32768
  asc : Ls.Pairwise fun L M => PySem.W.dataLt (sD M) (sD L) = false
theorem dataLt_sta (L M : Sta) : PySem.W.dataLt (sD L) (sD M) = PySem.W.rowLt (tDs (L.map nI)) (tDs (M.map nI)) := by
  unfold sD
  rw [PySem.W.dataLt_tuple]; rfl
theorem lt_empty : ∀ (n : Nat) (M : Sta), M.length = n → PySem.W.rowLt (tDs (M.map nI)) (tDs ((List.replicate n ([] : List Nat)).map nI)) = false ∧ (M ≠ List.replicate n [] → PySem.W.rowLt (tDs ((List.replicate n ([] : List Nat)).map nI)) (tDs (M.map nI)) = true)
  | 0, M, h => by
    rw [List.eq_nil_of_length_eq_zero h]
    exact ⟨rowLt_nil, fun z => absurd rfl z⟩
  | n + 1, [], h => nomatch h
  | n + 1, r :: M, h => by
    obtain ⟨i1, i2⟩ := lt_empty n M (Nat.succ.inj h)
    have al : ∀ a b : List Int, PySem.W.alike (tD a) (tD b) = true := fun a b => by
      have := PySem.W.alike_ints a b
      simp only [PySem.W.alike]; exact this
    rw [List.replicate_succ]
    show PySem.W.rowLt (tD (nI r) :: tDs (M.map nI)) (tD (nI []) :: tDs ((List.replicate n []).map nI)) = false ∧ (_ → PySem.W.rowLt (tD (nI []) :: tDs ((List.replicate n []).map nI)) (tD (nI r) :: tDs (M.map nI)) = true)
    rw [rowLt_cons (al _ _), rowLt_cons (al _ _), eqv_tD, eqv_tD]
    cases r with
    | nil =>
      rw [if_pos (by decide), if_pos (by decide)]
      exact ⟨i1, fun z => i2 fun e => z (by rw [e])⟩
    | cons a r =>
      have e1 : decide (nI (a :: r) = nI []) = false := decide_eq_false fun z => nomatch z
      have e2 : decide (nI [] = nI (a :: r)) = false := decide_eq_false fun z => nomatch z
      rw [e1, e2, if_neg (by decide), if_neg (by decide), lt_ints, lt_ints]
      exact ⟨rfl, fun _ => rfl⟩
theorem order_of {ws : List (List Int)} {R : Nat} {Ls Ms : List Sta} (hp : List.Perm Ms Ls) (nd : Ls.Nodup) (rch : ∀ L ∈ Ls, Rchd ws L) (form : ∀ L ∈ Ls, FormL ws R L) (all : ∀ L, Rchd ws L → L ∈ Ls) (few : Ls.length ≤ 32768)
    (asc : Ms.Pairwise fun L M => PySem.W.dataLt (sD M) (sD L) = false) : Order ws R Ms := by
  have memE : emptyL ws ∈ Ms := hp.mem_iff.mpr (all _ (Rchd.empty ws))
  refine ⟨hp.nodup_iff.mpr nd, ?_, fun L hL => rch L (hp.mem_iff.mp hL), fun L hL => form L (hp.mem_iff.mp hL), fun L h => hp.mem_iff.mpr (all L h), by rw [hp.length_eq]; exact few, asc⟩
  cases Ms with
  | nil => exact nomatch memE
  | cons M Ms =>
    show some M = some (emptyL ws)
    congr 1
    refine Classical.byContradiction fun ne => ?_
    have lenM := (form M (hp.mem_iff.mp List.mem_cons_self)).len
    have lt := (lt_empty ws.length M lenM).2 ne
    rcases List.mem_cons.mp memE with e | e
    · exact ne e.symm
    · have := (List.pairwise_cons.mp asc).1 _ e
      rw [dataLt_sta] at this
      have lt' : PySem.W.rowLt (tDs ((emptyL ws).map nI)) (tDs (M.map nI)) = true := lt
      rw [this] at lt'
      exact nomatch lt'
/-- a state's number -/
def idxS (Ls : List Sta) (L : Sta) : Nat := Ls.idxOf L
/-- a row of numbered moves: its pairs (choice, number) -/
def numRow (ws : List (List Int)) (Ls : List Sta) (L : Sta) : List (Int × Nat) := (chs ws L).map fun c => (chI c, idxS Ls (nextL ws L c))
def NumPs (H : Hp) : List V → List (Int × Nat) → Prop := Paired fun v p => ∃ t, v = .ref t ∧ H t = some (.tup [V.int p.1, .int (p.2 : Nat)])
def NumAt (H : Hp) : List V → List (List (Int × Nat)) → Prop := Paired fun u r => ∃ g ps, u = .ref g ∧ H g = some (.lst ps) ∧ NumPs H ps r
def numG (ws : List (List Int)) (Ls : List Sta) : List (List (Int × Nat)) := Ls.map (numRow ws Ls)
theorem NumPs.keep {H H' : Hp} (e : ∀ a us, H a = some (.tup us) → H' a = some (.tup us)) {ps : List V} {r : List (Int × Nat)} (h : NumPs H ps r) : NumPs H' ps r := by
  unfold NumPs at h ⊢
  induction h with
  | nil => exact .nil
  | cons a t ih =>
    obtain ⟨b, rfl, hb⟩ := a
    exact .cons ⟨b, rfl, e _ _ hb⟩ ih
theorem NumAt.keep {H H' : Hp} (et : ∀ a us, H a = some (.tup us) → H' a = some (.tup us)) (el : ∀ a us, H a = some (.lst us) → H' a = some (.lst us)) {us : List V} {G : List (List (Int × Nat))} (h : NumAt H us G) : NumAt H' us G := by
  unfold NumAt at h ⊢
  induction h with
  | nil => exact .nil
  | cons a t ih =>
    obtain ⟨g, ps, rfl, hg, hp⟩ := a
    exact .cons ⟨g, ps, rfl, el _ _ hg, hp.keep et⟩ ih
theorem NumAt.at {H : Hp} {us : List V} {G : List (List (Int × Nat))} (h : NumAt H us G) : ∀ {i : Nat} {u : V}, us[i]? = some u → ∃ g ps r, u = .ref g ∧ G[i]? = some r ∧ H g = some (.lst ps) ∧ NumPs H ps r := by
  unfold NumAt at h
  induction h with
  | nil => intro i u e; exact nomatch e
  | @cons v r us rs a t ih =>
    intro i u e
    cases i with
    | zero =>
      obtain rfl : v = u := Option.some.inj e
      obtain ⟨g, ps, h1, h2, h3⟩ := a
      exact ⟨g, ps, r, h1, rfl, h2, h3⟩
    | succ i => exact ih e
theorem NumPs.at {H : Hp} {ps : List V} {r : List (Int × Nat)} (h : NumPs H ps r) : ∀ {i : Nat} {u : V}, ps[i]? = some u → ∃ t p, u = .ref t ∧ r[i]? = some p ∧ H t = some (.tup [V.int p.1, .int (p.2 : Nat)]) := by
  unfold NumPs at h
  induction h with
  | nil => intro i u e; exact nomatch e
  | @cons v r us rs a t ih =>
    intro i u e
    cases i with
    | zero =>
      obtain rfl : v = u := Option.some.inj e
      obtain ⟨t, h1, h2⟩ := a
      exact ⟨t, r, h1, rfl, h2⟩
    | succ i => exact ih e
end Sg
set_option Elab.async false
set_option linter.all false
set_option maxRecDepth 100000
set_option maxHeartbeats 4000000
namespace Sg
open PySem PySem.Spec PyProof.Rows L2 StX
theorem at_num : ∀ {rs : List Row} {Ls : List Sta} {off : Nat}, Paired (fun (r : Row) (L : Sta) => r.1 = nk L) rs Ls → (∀ (j : Nat) (r : Row), rs[j]? = some r → r.2.2 = V.int ((off + j : Nat) : Nat)) → ∀ L ∈ Ls, atN rs (nk L) = some (.int ((off + Ls.idxOf L : Nat) : Nat)) := by
  intro rs Ls off h
  induction h generalizing off with
  | nil => intro _ L hL; exact nomatch hL
  | @cons r M rs Ls e t ih =>
    intro hv L hL
    by_cases g : M = L
    · subst g
      unfold atN
      rw [List.find?_cons_of_pos (p := fun x : Row => decide (x.1 = nk M)) (decide_eq_true e), List.idxOf_cons_self]
      show some r.2.2 = _
      rw [hv 0 r rfl]
    · have hL : L ∈ Ls := by
        rcases List.mem_cons.mp hL with z | z
        · exact absurd z.symm g
        · exact z
      have ne : ¬ r.1 = nk L := fun z => g (nk_inj (e.symm.trans z))
      have ih := ih (off := off + 1) (fun j r' hr => by rw [hv (j + 1) r' hr]; congr 2; omega) L hL
      unfold atN at ih ⊢
      rw [List.find?_cons_of_neg (p := fun x : Row => decide (x.1 = nk L)) (by simpa using ne), ih]
      have e2 : (M :: Ls).idxOf L = Ls.idxOf L + 1 := by
        rw [List.idxOf_cons, beq_false_of_ne g]; rfl
      rw [e2]
      congr 3; omega
theorem mv_at {H : Hp} {ws : List (List Int)} {rs : List Row} (hm : ∀ r ∈ rs, MvRow H ws r) {L : Sta} (h : HasL rs L) : ∃ G gs, atN rs (nk L) = some (.ref G) ∧ H G = some (.lst gs) ∧ PairsAt H ws L gs (chs ws L) := by
  obtain ⟨r0, hr0, e0⟩ := h
  have : (rs.find? fun r => decide (r.1 = nk L)).isSome := List.find?_isSome.mpr ⟨r0, hr0, decide_eq_true e0⟩
  obtain ⟨r, hr⟩ := Option.isSome_iff_exists.mp this
  obtain ⟨L', G, gs, a1, a2, a3, a4, a5⟩ := hm r (List.mem_of_find?_eq_some hr)
  have e1 : r.1 = nk L := of_decide_eq_true (List.find?_some (p := fun r : Row => decide (r.1 = nk L)) hr)
  obtain rfl := nk_inj (a1.symm.trans e1)
  refine ⟨G, gs, ?_, a3, a4⟩
  unfold atN
  rw [hr]
  show some r.2.2 = _
  rw [a2]
theorem NumAt.keepD {D : Addr} {H H' : Hp} (et : ∀ a us, H a = some (.tup us) → H' a = some (.tup us)) (el : ∀ a us, a ≠ D → H a = some (.lst us) → H' a = some (.lst us)) {us : List V} {G : List (List (Int × Nat))} (h : NumAt H us G) (hne : ∀ u ∈ us, u ≠ V.ref D) : NumAt H' us G := by
  unfold NumAt at h ⊢
  induction h with
  | nil => exact .nil
  | cons a t ih =>
    obtain ⟨g, ps, rfl, hg, hp⟩ := a
    exact .cons ⟨g, ps, rfl, el _ _ (fun z => hne _ List.mem_cons_self (by rw [z])) hg, hp.keep et⟩ (ih fun u hu => hne u (List.mem_cons_of_mem _ hu))
theorem paired_imp {α β : Type} {R S : α → β → Prop} {xs : List α} {ys : List β} (h : Paired R xs ys) (i : ∀ x y, R x y → S x y) : Paired S xs ys := by
  induction h with
  | nil => exact .nil
  | cons a r ih => exact .cons (i _ _ a) ih
theorem paired_mem {α β : Type} {R : α → β → Prop} {xs : List α} {ys : List β} (h : Paired R xs ys) : ∀ x ∈ xs, ∃ y ∈ ys, R x y := by
  induction h with
  | nil => intro x hx; exact nomatch hx
  | cons a r ih =>
    intro x hx
    rcases List.mem_cons.mp hx with rfl | hx
    · exact ⟨_, List.mem_cons_self, a⟩
    · obtain ⟨y, h1, h2⟩ := ih x hx
      exact ⟨y, List.mem_cons_of_mem _ h1, h2⟩
/-- the order of the states -/
def leS (L M : Sta) : Bool := !lexG lexI (M.map nI) (L.map nI)
theorem rowLt_tDs : ∀ xs ys : List (List Int), PySem.W.rowLt (tDs xs) (tDs ys) = lexG lexI xs ys
  | [], [] => rowLt_nil
  | [], y :: ys => rowLt_less _ _
  | x :: xs, [] => rowLt_more _ _
  | x :: xs, y :: ys => by
    show PySem.W.rowLt (tD x :: tDs xs) (tD y :: tDs ys) = if x = y then lexG lexI xs ys else lexI x y
    rw [rowLt_cons (by have := PySem.W.alike_ints x y; simp only [PySem.W.alike]; exact this), rowLt_tDs xs ys, lt_ints, eqv_tD]
    simp only [decide_eq_true_eq]
theorem lt_sta (L M : Sta) : PySem.W.dataLt (sD L) (sD M) = lexG lexI (L.map nI) (M.map nI) := by
  rw [dataLt_sta, rowLt_tDs]
theorem map_sD_inj : ∀ {l m : List Sta}, l.map sD = m.map sD → l = m
  | [], [], _ => rfl
  | [], _ :: _, h => nomatch h
  | _ :: _, [], h => nomatch h
  | a :: l, b :: m, h => by
    obtain ⟨h1, h2⟩ := List.cons.inj h
    rw [sD_inj h1, map_sD_inj h2]
theorem sort_stas {ys : List V} {Ls : List Sta} (h : ys.length = Ls.length) : ((ys.zip (Ls.map sD)).mergeSort (PySem.W.dataLe false (·.2))).map (·.2) = (Ls.mergeSort leS).map sD := by
  rw [List.map_mergeSort (r := PySem.W.dataLe false (fun b : V × PyData => b.2)) (s := PySem.W.dataLe false (fun d : PyData => d)) (f := fun b : V × PyData => b.2) (fun a _ b _ => rfl), zip_snd (by rw [h, List.length_map])]
  exact (List.map_mergeSort (r := leS) (f := sD) (fun a _ b _ => by
    show leS a b = !PySem.W.dataLt (sD b) (sD a)
    rw [lt_sta]; rfl)).symm
theorem leS_sorted (Ls : List Sta) : (Ls.mergeSort leS).Pairwise fun L M => PySem.W.dataLt (sD M) (sD L) = false := by
  have := List.pairwise_mergeSort (le := leS) (fun a b c h g => by
    unfold leS at h g ⊢
    rw [Bool.not_eq_true'] at h g ⊢
    exact lexG_neg (lt := lexI) (fun _ _ h => lexI_asym _ _ h) (fun _ _ _ h g => lexI_neg _ _ _ h g) (fun _ _ h g => lexI_eq _ _ h g) _ _ _ g h) (fun a b => by
    unfold leS
    cases h : lexG lexI (b.map nI) (a.map nI) with
    | false => rfl
    | true => rw [lexG_asym (lt := lexI) (fun _ _ h => lexI_asym _ _ h) _ _ h]; rfl) Ls
  refine this.imp fun {L M} h => ?_
  rw [lt_sta]
  unfold leS at h
  rwa [Bool.not_eq_true'] at h
section
variable {P : Program} {w : World} {K : PySem.W.Frag} {mg : Str → Option Value} {base : Heap}
/-! ### numbered_moves -/
def spNumbered (K : PySem.W.Frag) (C : Addr) : Sp := fun vs H Q _ => ∃ (a : Addr) (ws : List (List Int)) (R : Nat), vs = [.ref a] ∧ LineAt K C H a ws ∧ Rea ws R ∧ NearR ws.length R ∧
  ∀ H' l us Ls, Same H H' → Order ws R Ls → H' l = some (.lst us) → NumAt H' us (numG ws Ls) → Q (.ref l) H'
abbrev numN : List Str := ["line", "moves", "ordered", "numbers", "number", "state", "choice", "behind"]
theorem ok_numbered {f f1 C : Addr} {fd fd1 : FuncData} {k : Nat} (F : Fun K "numbered_moves" "numbered_moves" s_numbered_moves f fd)
    (G1 : FnOk P w K mg base CX0 k f1 fd1 ["line"] (spMoves P w K C)) (kp1 : PySem.W.keepIn K (.ref f1) = true) (b1 : Binds K fd1 ["line"] []) (g1 : mg "_moves" = some (.ref f1))
    (m1 : mg "sorted" = none) (m2 : mg "list" = none) (m3 : mg "enumerate" = none) : FnOk P w K mg base CX0 (k + 1) f fd ["line"] (spNumbered K C) := by
  refine F.ok sc_numbered_moves (fun vs H Q E h => ?_) (fun cdv A outer s H vs Q E hr h => ?_)
  · obtain ⟨a, ws, R, rfl, _⟩ := h; rfl
  · obtain ⟨a, ws, R, rfl, hL, hR, hN, q⟩ := h
    have hu := hr.units
    have hu64 : (A.deeper (envOfC "numbered_moves" (defScope s_numbered_moves) s.heap.objs.size f cdv)).units + 64 < cLine := by omega
    refine ⟨_, pss_cons (ps_set (i := 1) sc_numbered_moves.nd rfl (by first | exact .inl rfl | exact .inr rfl) (pe_call G1 hr (by rfl) g1 kp1 b1 .nil pass0 (pa_cons (pv 0) pa_nil)))
      (pss_cons (ps_set (i := 2) sc_numbered_moves.nd rfl (by first | exact .inl rfl | exact .inr rfl) (pe_callB (cr_sortedD hr) (by rfl) m1 (by decide +kernel) (pa_cons (pe_callTy (cr_listNK (P := P) (w := w) rfl rfl rfl) (by rfl) m2 (by decide +kernel) (pa_cons (pv 1) pa_nil)) pa_nil)))
      (pss_cons (ps_set (i := 3) sc_numbered_moves.nd rfl (by first | exact .inl rfl | exact .inr rfl) (pe_dcNK (P := P) (w := w) (own := [("number", 4), ("state", 5)]) (g := gTup K 2 (gCons (gName 4) (gCons (gName 5) gNil))) (tt := tYes) rfl rfl hu64 rfl sc_numbered_moves.nd (pi_enum (by rfl) m3 (pa_cons (pv 2) pa_nil)) (blkOk_by (N := numN) (sc := defScope s_numbered_moves) (by decide +kernel))
          (fun _ _ _ _ _ => pg_tup rfl (pgs_cons (pg_name (i := 4) sc_numbered_moves.nd rfl (by first | exact .inl rfl | exact .inr rfl)) (pgs_cons (pg_name (i := 5) sc_numbered_moves.nd rfl (by first | exact .inl rfl | exact .inr rfl)) pgs_nil))) (fun _ _ _ _ _ => pts_nil)
          (fun _ _ _ _ _ => pv 5) (fun _ _ _ _ _ => pv 4)))
      (pss_one (ps_ret (pe_lc (own := [("state", 5)]) (g := gName 5) (tt := tYes) rfl sc_numbered_moves.nd (pi_list (pv 2)) (blkOk_by (N := numN) (sc := defScope s_numbered_moves) (by decide +kernel))
          (fun _ _ _ _ _ => pg_name (i := 5) sc_numbered_moves.nd rfl (by first | exact .inl rfl | exact .inr rfl)) (fun _ _ _ _ _ => pts_nil)
          (fun _ _ _ _ _ => pe_lc (own := [("choice", 6), ("behind", 7)]) (g := gTup K 2 (gCons (gName 6) (gCons (gName 7) gNil))) (tt := tYes) rfl sc_numbered_moves.nd (pi_listK (K := K) rfl (pe_ngetK (P := P) (w := w) rfl rfl hu64 (pv 1) (pv 5) (fun _ _ => rfl))) (blkOk_by (by rfl))
            (fun _ _ _ _ _ => pg_tup rfl (pgs_cons (pg_name (i := 6) sc_numbered_moves.nd rfl (by first | exact .inl rfl | exact .inr rfl)) (pgs_cons (pg_name (i := 7) sc_numbered_moves.nd rfl (by first | exact .inl rfl | exact .inr rfl)) pgs_nil))) (fun _ _ _ _ _ => pts_nil)
            (fun _ _ _ _ _ => pe_tup (pa_cons (pv 6) (pa_cons (pe_ngetK (P := P) (w := w) rfl rfl hu64 (pv 3) (pv 7) (fun _ _ => rfl)) pa_nil))))))))), ?_⟩
    have big : 400000 ≤ sizeLine := by rw [sizeLine_eq]; decide
    have few := hL.good.few
    have pos : 1 ≤ ws.length := hL.good.least
    have R6 : R ≤ 60 := by rcases hN with ⟨_, h⟩ | ⟨_, h⟩ <;> omega
    refine ⟨.ref a, rfl, a, ws, R, rfl, hL, hR, hN, fun H1 m rs e1 hm hrs hmv hall => ?_⟩
    have fewr := hrs.few hN
    refine ⟨.ref m, rfl, m, rs, rfl, hm, hrs.keys, fun p np => ?_⟩
    have e2 := same_new (o := .lst (rs.map fun r => V.ref r.2.1)) np
    have hp2 := upd_same (H := H1) (a := p) (o := .lst (rs.map fun r => V.ref r.2.1))
    have hrs2 := hrs.keep fun _ _ z => e2 _ _ z
    have e12 := e1.trans e2
    have hm2 := e2 _ _ hm
    have hmv2 : ∀ r ∈ rs, MvRow (L2.upd H1 p (.lst (rs.map fun r => V.ref r.2.1))) ws r := fun r hr => by
      obtain ⟨L, G, gs, a1, a2, a3, a4, a5⟩ := hmv r hr
      exact ⟨L, G, gs, a1, a2, e2 _ _ a3, a4.keep fun _ _ z => e2 _ _ z, a5⟩
    generalize L2.upd H1 p (.lst (rs.map fun r => V.ref r.2.1)) = H2 at e2 hp2 hrs2 e12 hm2 hmv2 ⊢
    -- the states of the rows
    have hrows : ∀ rs' : List Row, (∀ r ∈ rs', r ∈ rs) → (rs'.map (·.1)).Nodup → ∃ Ls, StasAt H2 (rs'.map fun r => V.ref r.2.1) Ls ∧ (∀ L, HasL rs' L ↔ L ∈ Ls) ∧ (∀ L ∈ Ls, FormL ws R L ∧ Rchd ws L) ∧ Ls.Nodup := by
      intro rs'
      induction rs' with
      | nil => exact fun _ _ => ⟨[], .nil, (fun L => ⟨(fun ⟨r, hr, _⟩ => nomatch hr), (fun z => nomatch z)⟩), (fun L z => nomatch z), List.nodup_nil⟩
      | cons r rs' ih =>
        intro hin hnd
        rw [List.map_cons, List.nodup_cons] at hnd
        obtain ⟨Ls, h1, h2, h3, h4⟩ := ih (fun x hx => hin x (List.mem_cons_of_mem _ hx)) hnd.2
        obtain ⟨L, c1, c2, c3⟩ := hrs2.row r (hin r List.mem_cons_self)
        obtain ⟨L', G, gs, a1, a2, a3, a4, a5⟩ := hmv2 r (hin r List.mem_cons_self)
        obtain rfl := nk_inj (a1.symm.trans c1)
        refine ⟨L' :: Ls, .cons ⟨_, rfl, c2⟩ h1, fun M => ⟨fun ⟨x, hx, ex⟩ => ?_, fun hM => ?_⟩, fun M hM => ?_, List.nodup_cons.mpr ⟨fun z => ?_, h4⟩⟩
        · rcases List.mem_cons.mp hx with rfl | hx
          · rw [nk_inj (c1.symm.trans ex)]; exact List.mem_cons_self
          · exact List.mem_cons_of_mem _ ((h2 M).mp ⟨x, hx, ex⟩)
        · rcases List.mem_cons.mp hM with rfl | hM
          · exact ⟨r, List.mem_cons_self, c1⟩
          · obtain ⟨x, hx, ex⟩ := (h2 M).mpr hM
            exact ⟨x, List.mem_cons_of_mem _ hx, ex⟩
        · rcases List.mem_cons.mp hM with rfl | hM
          · exact ⟨c3, a5⟩
          · exact h3 M hM
        · obtain ⟨x, hx, ex⟩ := (h2 L').mpr z
          exact hnd.1 (List.mem_map.mpr ⟨x, hx, ex.trans c1.symm⟩)
    obtain ⟨Ls, hS, hin, hF, hnd⟩ := hrows rs (fun _ h => h) hrs.nd
    clear hrows
    have lLs : Ls.length = rs.length := by rw [← hS.len, List.length_map]
    refine ⟨p, _, Ls.map sD, rfl, .of hp2, hS.dp, PySem.W.AllAlike.of fun L M => ?_, .inl fun d hd => ?_, fun d hd => ?_, fun bs r eb nr => ?_⟩
    · show PySem.W.alike (.tuple (tDs _)) (.tuple (tDs _)) = true
      rw [PySem.W.alike, alike_tDs]
    · obtain ⟨L, hL2, rfl⟩ := List.mem_map.mp hd
      have := (hF L hL2).1.len
      rcases L with _ | ⟨x, r⟩
      · exact absurd this (by rw [List.length_nil]; omega)
      · exact ⟨_, _, rfl⟩
    · obtain ⟨L, _, rfl⟩ := List.mem_map.mp hd
      have := depth_sD L
      omega
    have hperm : bs.Perm ((rs.map fun r => V.ref r.2.1).zip (Ls.map sD)) := by rw [eb]; exact List.mergeSort_perm _ _
    have e3 := same_new (o := .lst (bs.map (·.1))) nr
    obtain ⟨Ms, h1, h2, h3⟩ := stas_of bs fun x hx => zip_stas hS x (hperm.mem_iff.mp hx)
    have hz : ((rs.map fun r => V.ref r.2.1).zip (Ls.map sD)).map (·.2) = Ls.map sD := zip_snd (by rw [List.length_map, List.length_map, lLs])
    have hpm : List.Perm (Ms.map sD) (Ls.map sD) := by
      rw [← h2, ← hz]; exact hperm.map _
    have inj : ∀ {L : Sta} {l : List Sta}, sD L ∈ l.map sD ↔ L ∈ l := fun {L l} => ⟨fun z => by
      obtain ⟨M, hM, e⟩ := List.mem_map.mp z
      rw [← sD_inj e]; exact hM, fun z => List.mem_map.mpr ⟨_, z, rfl⟩⟩
    have ndL : (Ls.map sD).Nodup := List.pairwise_map.mpr (hnd.imp fun ne e => ne (sD_inj e))
    have ndM : Ms.Nodup := by
      have := hpm.nodup_iff.mpr ndL
      exact (List.pairwise_map.mp this).imp fun ne e => ne (by rw [e])
    have hpM : List.Perm Ms Ls := (List.perm_ext_iff_of_nodup ndM hnd).mpr fun L => by rw [← inj (l := Ms), ← inj (l := Ls)]; exact hpm.mem_iff
    have asc : Ms.Pairwise fun L M => PySem.W.dataLt (sD M) (sD L) = false := by
      have e := sort_stas (ys := rs.map fun r => V.ref r.2.1) (Ls := Ls) (by rw [List.length_map, lLs])
      rw [← eb, h2] at e
      rw [map_sD_inj e]
      exact leS_sorted Ls
    have hO := order_of hpM hnd (fun L hL => (hF L hL).2) (fun L hL => (hF L hL).1) (fun L h => (hin L).mp (hall L h)) (by omega) asc
    have e13 := e12.trans e3
    have hr3 := upd_same (H := H2) (a := r) (o := .lst (bs.map (·.1)))
    have h13 := h1.keep fun _ _ z => e3 _ _ z
    have hm3 := e3 _ _ hm2
    have hkM : KeysIn (L2.upd H2 r (.lst (bs.map (·.1)))) rs := (hrs2.keep fun _ _ z => e3 _ _ z).keys
    have hmv3 : ∀ x ∈ rs, MvRow (L2.upd H2 r (.lst (bs.map (·.1)))) ws x := fun x hx => by
      obtain ⟨L, G, gs, a1, a2, a3, a4, a5⟩ := hmv2 x hx
      exact ⟨L, G, gs, a1, a2, e3 _ _ a3, a4.keep fun _ _ z => e3 _ _ z, a5⟩
    generalize L2.upd H2 r (.lst (bs.map (·.1))) = H3 at e3 hr3 h13 e13 hm3 hkM hmv3 ⊢
    generalize bs.map (·.1) = us at hr3 h13
    have lus := h13.len
    have lMs := hpM.length_eq
    -- the numbers
    refine ⟨.ref r, rfl, r, us, rfl, .of hr3, fun N nN => ?_⟩
    refine dcN_it (walk_enum (K := K) (a := r) (xs := us)) (fun i H' => Same H3 H' ∧ ∃ rn, H' N = some (DN P w N rn) ∧ Paired (fun (x : Row) (L : Sta) => x.1 = nk L ∧ StaAt H' x.2.1 L) rn (Ms.take i) ∧ ∀ (j : Nat) (x : Row), rn[j]? = some x → x.2.2 = V.int (j : Nat)) ⟨same_new nN, [], upd_same, .nil, fun j x hx => nomatch hx⟩ (fun i H' _ h => .of (h.1 _ _ hr3)) (fun i y H' H'' hi h hY => ?_) (fun H4 h => ?_)
    · obtain ⟨e4, rn, hN4, hP4, hv4⟩ := h
      obtain ⟨T, x1, x2, rfl, nT, rfl, f1, f2⟩ := hY
      dsimp only at f1 f2
      cases f1
      obtain ⟨b, L, hLi, rfl, hbL⟩ := h13.at f2
      have lrn := Paired.length hP4
      rw [List.length_take] at lrn
      have hi' : i < Ms.length := (List.getElem?_eq_some_iff.mp hLi).1
      have eT := same_new (o := .tup [V.int (i : Nat), .ref b]) nT
      refine ⟨T, _, rfl, .of upd_same, rfl, _, _, rfl, _, _, rfl, rfl, rfl, .ref b, rfl, .int (i : Nat), rfl, b, nk L, rn, rfl, ?_⟩
      have e5 := e4.trans eT
      have hN5 := eT _ _ hN4
      have hP5 : Paired (fun (x : Row) (L : Sta) => x.1 = nk L ∧ StaAt (L2.upd H' T (.tup [V.int (i : Nat), .ref b])) x.2.1 L) rn (Ms.take i) := paired_imp hP4 fun x M ⟨g1, g2⟩ => ⟨g1, g2.same eT⟩
      have hb5 := hbL.same e5
      generalize L2.upd H' T (.tup [V.int (i : Nat), .ref b]) = H5 at eT e5 hN5 hP5 hb5 ⊢
      have hK5 : KeysIn H5 rn := fun x hx => by
        obtain ⟨M, _, g1, g2⟩ := paired_mem hP5 x hx
        rw [g1]
        exact ⟨g2.key, nk_deep M⟩
      have hnone : atN rn (nk L) = none := by
        unfold atN
        rw [Option.map_eq_none_iff, List.find?_eq_none]
        intro x hx z
        obtain ⟨M, hM, g1, _⟩ := paired_mem hP5 x hx
        have e := nk_inj (g1.symm.trans (of_decide_eq_true z))
        subst e
        obtain ⟨j, hj⟩ := List.mem_iff_getElem?.mp hM
        rw [List.getElem?_take] at hj
        split at hj
        · rename_i hji
          have := (List.getElem?_inj (by omega) hO.nd).mp (hj.trans hLi.symm)
          omega
        · exact nomatch hj
      refine ⟨⟨hN5, hK5, hb5.key, nk_deep L⟩, by omega, ?_⟩
      rw [storeN_new hnone]
      have keepN : ∀ c us, H5 c = some (.tup us) → (L2.upd H5 N (DN P w N (rn ++ [(nk L, b, V.int (i : Nat))]))) c = some (.tup us) := fun c us z => by
        rw [upd_ne (ne_of z hN5 (fun c => nomatch c))]; exact z
      refine ⟨fun c o z => ?_, _, upd_same, ?_, fun j x hx => ?_⟩
      · rw [upd_ne (ne_of_none z nN)]; exact e5 _ _ z
      · rw [List.take_add_one, hLi]
        exact Paired.snoc (paired_imp hP5 fun x M ⟨g1, g2⟩ => ⟨g1, g2.keep keepN⟩) ⟨rfl, hb5.keep keepN⟩
      · by_cases hj : j < rn.length
        · rw [List.getElem?_append_left hj] at hx
          exact hv4 j x hx
        · rw [List.getElem?_append_right (by omega)] at hx
          have : j - rn.length = 0 := by
            have := (List.getElem?_eq_some_iff.mp hx).1
            simp only [List.length_cons, List.length_nil] at this
            omega
          rw [this] at hx
          cases hx
          show V.int (i : Nat) = V.int (j : Nat)
          congr 2; omega
    · obtain ⟨e4, rn, hN4, hP4, hv4⟩ := h
      rw [lus, List.take_length] at hP4
      have hr4 := e4 _ _ hr3
      have h14 := h13.keep fun _ _ z => e4 _ _ z
      have hm4 := e4 _ _ hm3
      have hkM4 := hkM.keep fun _ _ z => e4 _ _ z
      have hmv4 : ∀ x ∈ rs, MvRow H4 ws x := fun x hx => by
        obtain ⟨L, G, gs, a1, a2, a3, a4, a5⟩ := hmv3 x hx
        exact ⟨L, G, gs, a1, a2, e4 _ _ a3, a4.keep fun _ _ z => e4 _ _ z, a5⟩
      have hkN : KeysIn H4 rn := fun x hx => by
        obtain ⟨M, _, g1, g2⟩ := paired_mem hP4 x hx
        rw [g1]
        exact ⟨g2.key, nk_deep M⟩
      have hnum := at_num (off := 0) (paired_imp hP4 fun x M h => h.1) (fun j x hx => by rw [Nat.zero_add]; exact hv4 j x hx)
      refine ⟨.ref r, rfl, r, rfl, ⟨_, .of hr4⟩, fun D nD => ?_⟩
      have hrD : r ≠ D := ne_of_none hr4 nD
      refine lc_list (xs := us) (fun i H' => Same H4 H' ∧ ∃ ds, H' D = some (.lst ds) ∧ ds.length = i ∧ NumAt H' ds ((Ms.take i).map (numRow ws Ms)) ∧ ∀ u ∈ ds, u ≠ V.ref D) ⟨same_new nD, [], upd_same, rfl, .nil, fun u hu => nomatch hu⟩ (fun i H' _ h => .of (h.1 _ _ hr4)) (fun i y H' hy h => ?_) (fun H9 h => ?_)
      · obtain ⟨e5, ds, hD5, ld, hP5, hne5⟩ := h
        obtain ⟨b, L, hLi, rfl, hbL⟩ := h14.at hy
        have hi' : i < Ms.length := (List.getElem?_eq_some_iff.mp hLi).1
        have hLM := List.mem_of_getElem? hLi
        obtain ⟨G, gs, g1', g2', g3'⟩ := mv_at hmv4 ((hin L).mpr (hpM.mem_iff.mp hLM))
        have hm5 := e5 _ _ hm4
        have hkM5 := hkM4.keep fun _ _ z => e5 _ _ z
        have hG5 := e5 _ _ g2'
        have hP5' := g3'.keep fun _ _ z => e5 _ _ z
        have hrch := hO.rch L hLM
        refine ⟨rfl, .ref m, rfl, .ref b, rfl, m, b, nk L, rs, .ref G, rfl, rfl, ⟨hm5, hkM5, (hbL.same e5).key, nk_deep L⟩, g1', G, rfl, ⟨_, .of hG5⟩, fun D2 nD2 => ?_⟩
        have lgs := Paired.length hP5'
        have lch := chs_len (ws := ws) (L := L)
        refine lc_list (K := K) (a := G) (xs := gs) (fun j H2 => Same H' H2 ∧ ∃ es, H2 D2 = some (.lst es) ∧ es.length = j ∧ NumPs H2 es ((numRow ws Ms L).take j)) ⟨same_new nD2, [], upd_same, rfl, .nil⟩ (fun j H2 _ h => .of (h.1 _ _ hG5)) (fun j z H2 hz2 h => ?_) (fun H6 h => ?_)
        · obtain ⟨e6, es, hD6, le, hQ6⟩ := h
          obtain ⟨t, bb, c, hc, rfl, ht, hbb⟩ := hP5'.at hz2
          have hjl := (List.getElem?_eq_some_iff.mp hc).1
          have hcan := chs_can.mp (List.mem_of_getElem? hc)
          have hnx := hO.all _ (hrch.next hcan)
          have e46 := e5.trans e6
          refine ⟨t, _, rfl, .of (e6 _ _ ht), rfl, _, _, rfl, _, _, rfl, rfl, rfl, .int (chI c), rfl, .ref N, rfl, .ref bb, rfl, N, bb, nk (nextL ws L c), rn, _, rfl, rfl, ⟨e46 _ _ hN4, hkN.keep fun _ _ z => e46 _ _ z, (hbb.same e6).key, nk_deep _⟩, hnum _ hnx, by show 2 ≤ sizeLine; omega, fun z nz => ?_⟩
          have ez := same_new (o := .tup [V.int (chI c), .int ((0 + Ms.idxOf (nextL ws L c) : Nat) : Nat)]) nz
          have hz7 : (L2.upd H2 z (.tup [V.int (chI c), .int ((0 + Ms.idxOf (nextL ws L c) : Nat) : Nat)])) z = some (.tup [V.int (chI c), .int ((0 + Ms.idxOf (nextL ws L c) : Nat) : Nat)]) := upd_same
          generalize L2.upd H2 z (.tup [V.int (chI c), .int ((0 + Ms.idxOf (nextL ws L c) : Nat) : Nat)]) = H7 at ez hz7 ⊢
          have hD7 := ez _ _ hD6
          have keepD : ∀ c us, H7 c = some (.tup us) → (L2.upd H7 D2 (.lst (es ++ [.ref z]))) c = some (.tup us) := fun c us z => by
            rw [upd_ne (ne_of z hD7 (fun c => nomatch c))]; exact z
          refine ⟨es, hD7, by omega, fun x o zz => ?_, es ++ [.ref z], upd_same, by rw [List.length_append, le]; rfl, ?_⟩
          · rw [upd_ne (ne_of_none zz nD2)]
            exact ez _ _ (e6 _ _ zz)
          · have er : (numRow ws Ms L)[j]? = some (chI c, idxS Ms (nextL ws L c)) := by
              unfold numRow
              rw [List.getElem?_map, hc]; rfl
            rw [List.take_add_one, er]
            refine Paired.snoc ((hQ6.keep fun _ _ z => ez _ _ z).keep keepD) ⟨z, rfl, keepD _ _ ?_⟩
            rw [hz7, Nat.zero_add]; rfl
        · obtain ⟨e6, es, hD6, le, hQ6⟩ := h
          have lnr : (numRow ws Ms L).length = gs.length := by unfold numRow; rw [List.length_map, lgs]
          rw [← lnr, List.take_length] at hQ6
          have hD7 := e6 _ _ hD5
          have nDD2 : D ≠ D2 := ne_of_none hD5 nD2
          have keepL : ∀ c us, c ≠ D → H6 c = some (.lst us) → (L2.upd H6 D (.lst (ds ++ [.ref D2]))) c = some (.lst us) := fun c us nc z => by rw [upd_ne nc]; exact z
          have keepT : ∀ c us, H6 c = some (.tup us) → (L2.upd H6 D (.lst (ds ++ [.ref D2]))) c = some (.tup us) := fun c us z => by
            rw [upd_ne (ne_of z hD7 (fun c => nomatch c))]; exact z
          refine ⟨ds, hD7, by omega, fun x o zz => ?_, ds ++ [.ref D2], upd_same, by rw [List.length_append, ld]; rfl, ?_, fun u hu => ?_⟩
          · rw [upd_ne (ne_of_none zz nD)]
            exact e6 _ _ (e5 _ _ zz)
          · rw [List.take_add_one, hLi, List.map_append]
            have h6 : NumAt H6 ds ((Ms.take i).map (numRow ws Ms)) := hP5.keep (fun _ _ z => e6 _ _ z) fun _ _ z => e6 _ _ z
            exact Paired.snoc (h6.keepD keepT keepL hne5) ⟨D2, es, rfl, keepL _ _ nDD2.symm hD6, hQ6.keep keepT⟩
          · rcases List.mem_append.mp hu with hu | hu
            · exact hne5 u hu
            · rw [List.mem_singleton.mp hu]
              exact fun z => nDD2 (V.ref.inj z).symm
      · obtain ⟨e5, ds, hD5, ld, hP5, hne5⟩ := h
        rw [lus, List.take_length] at hP5
        exact q H9 D ds Ms (e13.trans (e4.trans e5)) hO hD5 hP5
end
end Sg
set_option Elab.async false
set_option linter.all false
set_option maxRecDepth 100000
set_option maxHeartbeats 4000000
namespace Sg
open PySem PySem.Spec PyProof.Rows L2 StX
/-! ## graphs in the heap -/
def EdgeAt (H : Hp) (v : V) (e : Edge) : Prop := ∃ t, v = V.ref t ∧ H t = some (.tup [.int e.1, .int e.2.1, .int (e.2.2 : Nat)])
abbrev EdgesAt (H : Hp) : List V → List Edge → Prop := Paired (EdgeAt H)
def GrAt (H : Hp) : List V → Gr → Prop := Paired fun u es => ∃ g ps, u = V.ref g ∧ H g = some (.lst ps) ∧ EdgesAt H ps es
section
variable {P : Program} {w : World} {K : PySem.W.Frag} {mg : Str → Option Value} {base : Heap}
/-! ### excess -/
def spExcess : Sp := fun vs H Q _ => ∃ (t h : Addr) (e : Edge) (hi : Int × Int) (x y : Int), vs = [.ref t, .ref h, .int x, .int y] ∧ H t = some (.tup [.int e.1, .int e.2.1, .int (e.2.2 : Nat)]) ∧ H h = some (.tup [.int hi.1, .int hi.2]) ∧ e.2.1.natAbs ≤ 1000000000000 ∧ Q (.int (hi.2 * e.2.1 - hi.1 - (y - x))) H
theorem ok_excess {f : Addr} {fd : FuncData} {k : Nat} (F : Fun K "excess" "excess" s_excess f fd) : FnOk P w K mg base CX0 (k + 1) f fd ["edge", "highest", "before", "behind"] spExcess := by
  refine F.ok sc_excess (fun vs H Q E h => ?_) (fun cdv A outer s H vs Q E hr h => ?_)
  · obtain ⟨t, h', e, hi, x, y, rfl, _⟩ := h; rfl
  · obtain ⟨t, h', e, hi, x, y, rfl, ht, hh, b2, q⟩ := h
    refine ⟨_, pss_cons (ps_asg (pv 0) (pg_tup rfl (pgs_cons (pg_name (i := 4) sc_excess.nd rfl (.inl rfl)) (pgs_cons (pg_name (i := 5) sc_excess.nd rfl (.inl rfl)) (pgs_cons (pg_name (i := 4) sc_excess.nd rfl (.inl rfl)) pgs_nil)))))
      (pss_cons (ps_asg (pv 1) (pg_tup rfl (pgs_cons (pg_name (i := 6) sc_excess.nd rfl (.inl rfl)) (pgs_cons (pg_name (i := 7) sc_excess.nd rfl (.inl rfl)) pgs_nil))))
      (pss_one (ps_ret (pe_op op_sub (pe_op op_sub (pe_op op_mul (pv 7) (pv 5)) (pv 6)) (pe_op op_sub (pv 3) (pv 2)))))), ?_⟩
    refine ⟨.ref t, rfl, t, _, rfl, .of ht, rfl, _, _, rfl, _, _, rfl, _, _, rfl, rfl, ?_⟩
    refine ⟨.ref h', rfl, h', _, rfl, .of hh, rfl, _, _, rfl, _, _, rfl, rfl, ?_⟩
    refine ⟨.int hi.2, rfl, .int e.2.1, rfl, hi.2, e.2.1, rfl, rfl, ?_, .int hi.1, rfl, _, _, rfl, rfl, .int y, rfl, .int x, rfl, _, _, rfl, rfl, _, _, rfl, rfl, q⟩
    exact .inr ⟨by omega, by omega⟩
/-- o[i] of a list, read before it is set -/
theorem pget_list {X : Cx} : PGet X (rIxL X.K) := by
  intro pins s σ H x y v u Q I rx ry h
  obtain ⟨p, xs, i, z, rfl, rfl, hq, he, q⟩ := h
  cases rx
  obtain ⟨t, rfl⟩ := ry
  obtain ⟨its, r, pl, hz⟩ := I.list hq
  obtain ⟨j, h1, h2, h3, h4, h5⟩ := atI_get he
  obtain ⟨w, ew, rw'⟩ := r.get h2
  have hl := r.length
  have hn := line63
  have fin : EP X pins σ Q w s := ⟨z, H, I, rw', q⟩
  by_cases h0 : 0 ≤ i
  · have hj : i.toNat = j := by
      rw [seqIndex_of h0 h5] at h1
      exact Option.some.inj h1
    exact wpAny_getItem_list pl.isList h0 (by omega) (by rw [hj]; simpa using ew) fin
  · have hj : (i + (its.toArray.size : Int)).toNat = j := by
      rw [seqIndex_neg (by omega) h4] at h1
      rw [List.size_toArray, ← hl]
      exact Option.some.inj h1
    exact wpAny_getItem_list_neg pl.isList (by omega) (by rw [List.size_toArray] <;> omega) (by omega) (by rw [hj]; simpa using ew) fin
/-! ### _raise_prices -/
def CameAt (H : Hp) : List V → Came → Prop := Paired fun v o => match o with
  | none => v = V.non
  | some y => ∃ t, v = V.ref t ∧ H t = some (.tup [.int (y.1 : Nat), .int y.2])
theorem CameAt.keep {H H' : Hp} (e : KeepT H H') {us : List V} {c : Came} (h : CameAt H us c) : CameAt H' us c := by
  unfold CameAt at h ⊢
  induction h with
  | nil => exact .nil
  | @cons v o us c a t ih =>
    refine .cons ?_ ih
    cases o with
    | none => exact a
    | some y =>
      obtain ⟨t, h1, h2⟩ := a
      exact ⟨t, h1, e _ _ h2⟩
theorem CameAt.set {H : Hp} {us : List V} {c : Came} (h : CameAt H us c) {j : Nat} {t : Addr} {y : Nat × Int} (ht : H t = some (.tup [.int (y.1 : Nat), .int y.2])) : CameAt H (us.set j (.ref t)) (c.set j (some y)) := by
  unfold CameAt at h ⊢
  induction h generalizing j with
  | nil => cases j <;> exact .nil
  | cons a tl ih =>
    cases j with
    | zero => exact .cons ⟨t, rfl, ht⟩ tl
    | succ j => exact .cons a ih
structure PriAt (H : Hp) (pr cb : Addr) (p : List Int) (c : Came) : Prop where
  pri : H pr = some (.lst (p.map V.int))
  came : ∃ cv, H cb = some (.lst cv) ∧ CameAt H cv c
def SmallG (G : Gr) : Prop := ∀ es ∈ G, ∀ e ∈ es, e.2.1.natAbs ≤ 1000000000000
def spRaise : Sp := fun vs H Q _ => ∃ (g h pr cb : Addr) (us : List V) (G : Gr) (hi : Int × Int) (p : List Int) (c : Came), vs = [.ref g, .ref h, .ref pr, .ref cb] ∧ H g = some (.lst us) ∧ GrAt H us G ∧ H h = some (.tup [.int hi.1, .int hi.2]) ∧ PriAt H pr cb p c ∧ pr ≠ cb ∧ g ≠ pr ∧ g ≠ cb ∧
  (∀ u ∈ us, u ≠ V.ref pr ∧ u ≠ V.ref cb) ∧ WfG G ∧ SmallG G ∧ p.length = G.length ∧ c.length = G.length ∧
  ∀ H', But2 pr cb H H' → PriAt H' pr cb (raiseUp hi G (p, c, false) G.length).1 (raiseUp hi G (p, c, false) G.length).2.1 → Q (.bl (raiseUp hi G (p, c, false) G.length).2.2) H'
theorem ok_raise {f f1 : Addr} {fd fd1 : FuncData} {k : Nat} (F : Fun K "_raise_prices" "_raise_prices" s_raise_prices f fd)
    (G1 : FnOk P w K mg base CX0 k f1 fd1 ["edge", "highest", "before", "behind"] spExcess) (kp1 : PySem.W.keepIn K (.ref f1) = true) (b1 : Binds K fd1 ["edge", "highest", "before", "behind"] []) (g1 : mg "excess" = some (.ref f1))
    (m1 : mg "enumerate" = none) : FnOk P w K mg base CX0 (k + 1) f fd ["graph", "highest", "prices", "came_by"] spRaise := by
  refine F.ok sc_raise_prices (fun vs H Q E h => ?_) (fun cdv A outer s H vs Q E hr h => ?_)
  · obtain ⟨g, h', pr, cb, us, G, hi, p, c, rfl, _⟩ := h; rfl
  · obtain ⟨g, h', pr, cb, us, G, hi, p, c, rfl, hg, hG, hh, hP, npc, ngp, ngc, nu, W, sm, lp, lc, q⟩ := h
    refine ⟨_, pss_cons (ps_set (i := 4) sc_raise_prices.nd rfl (.inl rfl) pe_bl)
      (pss_cons (ps_for PassesOwn.never rfl (pi_enum (by rfl) m1 (pa_cons (pv 0) pa_nil)) (pg_tup rfl (pgs_cons (pg_name (i := 5) sc_raise_prices.nd rfl (.inl rfl)) (pgs_cons (pg_name (i := 6) sc_raise_prices.nd rfl (.inl rfl)) pgs_nil)))
        (pss_one (ps_for PassesOwn.never rfl (pi_list (pv 6)) (pg_name (i := 7) sc_raise_prices.nd rfl (.inl rfl))
          (pss_cons (ps_asg (pv 7) (pg_tup rfl (pgs_cons (pg_name (i := 8) sc_raise_prices.nd rfl (.inl rfl)) (pgs_cons (pg_name (i := 9) sc_raise_prices.nd rfl (.inl rfl)) (pgs_cons (pg_name (i := 10) sc_raise_prices.nd rfl (.inl rfl)) pgs_nil)))))
          (pss_cons (ps_set (i := 11) sc_raise_prices.nd rfl (.inl rfl) (pe_call G1 hr (by rfl) g1 kp1 b1 .nil pass0 (pa_cons (pv 7) (pa_cons (pv 1) (pa_cons (pe_ix ix_list (pv 2) (pv 5) (fun _ _ => rfl)) (pa_cons (pe_ix ix_list (pv 2) (pv 10) (fun _ _ => rfl)) pa_nil))))))
          (pss_one (ps_if (pt_cmpR op_gt (pv 11) pe_int (nomark _))
            (pss_cons (ps_augS (pv 2) (pv 10) pget_list (pv 11) ip_add set_list)
            (pss_cons (ps_asg (pe_tup (pa_cons (pv 5) (pa_cons (pv 9) pa_nil))) (pg_sub (pv 3) (pv 10) set_list))
            (pss_one (ps_set (i := 4) sc_raise_prices.nd rfl (.inl rfl) pe_bl)))) pss_nil)))))))
      (pss_one (ps_ret (pv 4)))), ?_⟩
    have big : 1000 ≤ sizeLine := by rw [sizeLine_eq]; decide
    obtain ⟨cv0, hcb0, _⟩ := hP.came
    have kT : ∀ {H'}, But2 pr cb H H' → KeepT H H' := fun e a us z => e a _ (ne_of z hP.pri fun c => nomatch c) (ne_of z hcb0 fun c => nomatch c) z
    have S0 : PriOk hi G (p, c, false) → True := fun _ => True.intro
    have lG : us.length = G.length := Paired.length hG
    have lens : ∀ i, (raiseUp hi G (p, c, false) i).1.length = G.length ∧ (raiseUp hi G (p, c, false) i).2.1.length = G.length := by
      have one : ∀ (node : Nat) (es : List Edge) (s : PriS), s.1.length = G.length ∧ s.2.1.length = G.length → (es.foldl (raiseE hi node) s).1.length = G.length ∧ (es.foldl (raiseE hi node) s).2.1.length = G.length := by
        intro node es
        induction es with
        | nil => exact fun s h => h
        | cons e es ih =>
          intro s h
          refine ih _ ?_
          unfold raiseE
          split
          · exact ⟨by rw [List.length_set]; exact h.1, by rw [List.length_set]; exact h.2⟩
          · exact h
      intro i
      induction i with
      | zero => exact ⟨lp, lc⟩
      | succ i ih =>
        unfold raiseUp at ih ⊢
        rw [List.range_succ, List.foldl_append]
        exact one i _ _ ih
    refine ⟨.ref g, rfl, g, us, rfl, .of hg, ?_⟩
    refine for_it (walk_enum (xs := us)) (fun i σ H' => ∃ v5 v6 v7 v8 v9 v10 v11, σ = [some (.ref g), some (.ref h'), some (.ref pr), some (.ref cb), some (.bl (raiseUp hi G (p, c, false) i).2.2), v5, v6, v7, v8, v9, v10, v11] ∧ But2 pr cb H H' ∧ PriAt H' pr cb (raiseUp hi G (p, c, false) i).1 (raiseUp hi G (p, c, false) i).2.1)
      ⟨_, _, _, _, _, _, _, rfl, fun _ _ _ _ z => z, hP⟩ (fun i σ H' _ h => ?_) (fun i y σ H' H'' hil h hY => ?_) (fun σ H' h => ?_)
    · obtain ⟨_, _, _, _, _, _, _, _, e, _⟩ := h
      exact .of (e _ _ ngp ngc hg)
    · obtain ⟨v5, v6, v7, v8, v9, v10, v11, rfl, e1, h1⟩ := h
      obtain ⟨T, x1, x2, rfl, nT, rfl, f1, f2⟩ := hY
      dsimp only at f1 f2
      cases f1
      obtain ⟨es, hes, ge, ps, rfl, hge, hps⟩ := paired_get hG f2
      have hil2 := (List.getElem?_eq_some_iff.mp hes).1
      obtain ⟨l1, l2⟩ := lens i
      have eT := same_new (o := .tup [V.int (i : Nat), .ref ge]) nT
      have hT2 : (upd H' T (.tup [V.int (i : Nat), .ref ge])) T = some (.tup [V.int (i : Nat), .ref ge]) := upd_same
      have e2 := e1.trans (.of eT)
      have h2 : PriAt (upd H' T (.tup [V.int (i : Nat), .ref ge])) pr cb (raiseUp hi G (p, c, false) i).1 (raiseUp hi G (p, c, false) i).2.1 := ⟨eT _ _ h1.pri, let ⟨cv, a, b⟩ := h1.came; ⟨cv, eT _ _ a, b.keep (.of eT)⟩⟩
      refine ⟨T, _, rfl, .of hT2, rfl, _, _, rfl, _, _, rfl, rfl, ?_⟩
      generalize upd H' T (.tup [V.int (i : Nat), .ref ge]) = H2 at e2 h2 ⊢
      obtain ⟨ngep, ngec⟩ := nu _ (List.mem_of_getElem? f2)
      have ngep : ge ≠ pr := fun z => ngep (by rw [z])
      have ngec : ge ≠ cb := fun z => ngec (by rw [z])
      have hgd : G.getD i [] = es := by rw [List.getD_eq_getElem?_getD, hes]; rfl
      have esucc : raiseUp hi G (p, c, false) (i + 1) = es.foldl (raiseE hi i) (raiseUp hi G (p, c, false) i) := by
        unfold raiseUp
        rw [List.range_succ, List.foldl_append]
        show raiseN hi G _ i = _
        unfold raiseN
        rw [hgd]
      rw [esucc]
      generalize raiseUp hi G (p, c, false) i = S at h2 l1 l2 ⊢
      have lps := Paired.length hps
      refine ⟨.ref ge, rfl, ge, rfl, ⟨_, .of (e2 _ _ ngep ngec hge)⟩, ?_⟩
      refine for_list (xs := ps) (fun j σ H' => ∃ v7 v8 v9 v10 v11, σ = [some (.ref g), some (.ref h'), some (.ref pr), some (.ref cb), some (.bl ((es.take j).foldl (raiseE hi i) S).2.2), some (.int (i : Nat)), some (.ref ge), v7, v8, v9, v10, v11] ∧ But2 pr cb H H' ∧ PriAt H' pr cb ((es.take j).foldl (raiseE hi i) S).1 ((es.take j).foldl (raiseE hi i) S).2.1 ∧
          ((es.take j).foldl (raiseE hi i) S).1.length = G.length ∧ ((es.take j).foldl (raiseE hi i) S).2.1.length = G.length) ⟨_, _, _, _, _, rfl, e2, h2, l1, l2⟩ (fun j σ H' _ h => ?_) (fun j y σ H3 hy h => ?_) (fun σ H' h => ?_)
      · obtain ⟨_, _, _, _, _, _, e, _⟩ := h
        exact .of (e _ _ ngep ngec hge)
      · obtain ⟨v7, v8, v9, v10, v11, rfl, e3, h3, l3, l4⟩ := h
        obtain ⟨e, hej, t, rfl, ht⟩ := paired_get hps hy
        have hem := List.mem_of_getElem? hej
        have hbe := W.behind es (List.mem_of_getElem? hes) e hem
        have hsm := sm es (List.mem_of_getElem? hes) e hem
        rw [foldl_take _ _ hej]
        generalize (es.take j).foldl (raiseE hi i) S = Z at h3 l3 l4 ⊢
        have k3 := kT e3
        have ht3 := k3 _ _ ht
        have hh3 := k3 _ _ hh
        have pat : ∀ v, v < G.length → (Z.1.map V.int)[v]? = some (.int (prc Z.1 v)) := fun v hv => by
          rw [List.getElem?_map, List.getElem?_eq_getElem (by omega)]
          unfold prc
          rw [List.getD_eq_getElem?_getD, List.getElem?_eq_getElem (by omega)]; rfl
        refine ⟨.ref t, rfl, t, _, rfl, .of ht3, rfl, _, _, rfl, _, _, rfl, _, _, rfl, rfl, ?_⟩
        refine ⟨.ref t, rfl, .ref h', rfl, .ref pr, rfl, .int (i : Nat), rfl, pr, _, (i : Nat), .int (prc Z.1 i), rfl, rfl, .of h3.pri, atI_nat (pat i hil2), .ref pr, rfl, .int (e.2.2 : Nat), rfl, pr, _, (e.2.2 : Nat), .int (prc Z.1 e.2.2), rfl, rfl, .of h3.pri, atI_nat (pat e.2.2 hbe), ?_⟩
        refine ⟨t, h', e, hi, prc Z.1 i, prc Z.1 e.2.2, rfl, ht3, hh3, hsm, ?_⟩
        refine ⟨.int (hi.2 * e.2.1 - hi.1 - (prc Z.1 e.2.2 - prc Z.1 i)), rfl, _, _, rfl, rfl, _, rfl, ?_⟩
        have hex : hi.2 * e.2.1 - hi.1 - (prc Z.1 e.2.2 - prc Z.1 i) = excE hi Z.1 i e := rfl
        rw [hex]
        by_cases g0 : 0 < excE hi Z.1 i e
        · have er : raiseE hi i Z e = (Z.1.set e.2.2 (prc Z.1 e.2.2 + excE hi Z.1 i e), Z.2.1.set e.2.2 (some (i, e.2.1)), true) := by unfold raiseE; rw [if_pos g0]
          rw [er, decide_eq_true (show excE hi Z.1 i e > 0 from g0)]
          refine iteT ⟨.ref pr, rfl, .int (e.2.2 : Nat), rfl, pr, _, (e.2.2 : Nat), .int (prc Z.1 e.2.2), rfl, rfl, .of h3.pri, atI_nat (pat e.2.2 hbe), .int (excE hi Z.1 i e), rfl, _, _, rfl, rfl, pr, _, (e.2.2 : Nat), e.2.2, rfl, rfl, h3.pri, ixN_nat (by rw [List.length_map]; omega), ?_⟩
          have hp4 : (upd H3 pr (.lst ((Z.1.map V.int).set e.2.2 (.int (prc Z.1 e.2.2 + excE hi Z.1 i e))))) pr = some (.lst ((Z.1.set e.2.2 (prc Z.1 e.2.2 + excE hi Z.1 i e)).map V.int)) := by rw [upd_same, List.map_set]
          obtain ⟨cv, hcv, hca⟩ := h3.came
          have k34 : KeepT H3 (upd H3 pr (.lst ((Z.1.map V.int).set e.2.2 (.int (prc Z.1 e.2.2 + excE hi Z.1 i e))))) := .upd h3.pri fun _ z => nomatch z
          have hc4 : (upd H3 pr (.lst ((Z.1.map V.int).set e.2.2 (.int (prc Z.1 e.2.2 + excE hi Z.1 i e))))) cb = some (.lst cv) := by rw [upd_ne npc.symm]; exact hcv
          have hca4 := hca.keep k34
          have e4 : But2 pr cb H (upd H3 pr (.lst ((Z.1.map V.int).set e.2.2 (.int (prc Z.1 e.2.2 + excE hi Z.1 i e))))) := fun b o n m z => by rw [upd_ne n]; exact e3 b o n m z
          generalize upd H3 pr (.lst ((Z.1.map V.int).set e.2.2 (.int (prc Z.1 e.2.2 + excE hi Z.1 i e)))) = H4 at hp4 hc4 hca4 e4 ⊢
          refine ⟨.int (i : Nat), rfl, .int e.2.1, rfl, by show 2 ≤ sizeLine; omega, fun b nb => ?_⟩
          have eb := same_new (o := .tup [V.int (i : Nat), .int e.2.1]) nb
          have hb : (upd H4 b (.tup [V.int (i : Nat), .int e.2.1])) b = some (.tup [V.int (i : Nat), .int e.2.1]) := upd_same
          have hp5 := eb _ _ hp4
          have hc5 := eb _ _ hc4
          have hca5 := hca4.keep (.of eb)
          have e5 := e4.trans (.of eb)
          generalize upd H4 b (.tup [V.int (i : Nat), .int e.2.1]) = H5 at hb hp5 hc5 hca5 e5 ⊢
          have lcv : cv.length = Z.2.1.length := Paired.length hca
          refine ⟨.ref cb, rfl, .int (e.2.2 : Nat), rfl, cb, cv, (e.2.2 : Nat), e.2.2, rfl, rfl, hc5, ixN_nat (by omega), ?_⟩
          have k56 : KeepT H5 (upd H5 cb (.lst (cv.set e.2.2 (.ref b)))) := .upd hc5 fun _ z => nomatch z
          refine ⟨_, _, _, _, _, rfl, fun x o n m z => by rw [upd_ne m]; exact e5 x o n m z, ⟨by rw [upd_ne npc]; exact hp5, _, upd_same, ?_⟩, by rw [List.length_set]; exact l3, by rw [List.length_set]; exact l4⟩
          exact (hca5.keep k56).set (y := (i, e.2.1)) (k56 _ _ hb)
        · have er : raiseE hi i Z e = Z := by unfold raiseE; rw [if_neg g0]
          rw [er, decide_eq_false (show ¬ excE hi Z.1 i e > 0 from g0)]
          exact iteF ⟨_, _, _, _, _, rfl, e3, h3, l3, l4⟩
      · obtain ⟨v7, v8, v9, v10, v11, rfl, e3, h3, l3, l4⟩ := h
        rw [lps, List.take_length] at h3 ⊢
        exact ⟨_, _, _, _, _, _, _, rfl, e3, h3⟩
    · obtain ⟨v5, v6, v7, v8, v9, v10, v11, rfl, e1, h1⟩ := h
      rw [lG] at h1 ⊢
      exact ⟨_, rfl, q H' e1 h1⟩
end
end Sg
set_option Elab.async false
set_option linter.all false
set_option maxRecDepth 100000
set_option maxHeartbeats 4000000
namespace Sg
open PySem PySem.Spec PyProof.Rows L2 StX
theorem CameAt.at {H : Hp} {us : List V} {c : Came} (h : CameAt H us c) {v u : Nat} {g : Int} (e : c[v]? = some (some (u, g))) : ∃ t, us[v]? = some (V.ref t) ∧ H t = some (.tup [.int (u : Nat), .int g]) := by
  have hl := Paired.length h
  have hv := (List.getElem?_eq_some_iff.mp e).1
  obtain ⟨o, ho, ha⟩ := paired_get h (List.getElem?_eq_getElem (show v < us.length by omega))
  rw [e] at ho
  obtain rfl := Option.some.inj ho
  obtain ⟨t, h1, h2⟩ := ha
  exact ⟨t, by rw [List.getElem?_eq_getElem (show v < us.length by omega), h1], h2⟩
section
variable {P : Program} {w : World} {K : PySem.W.Frag} {mg : Str → Option Value} {base : Heap}
/-! ### _measured -/
def spMeasured : Sp := fun vs H Q _ => ∃ (cb : Addr) (cv : List V) (c : Came) (st m : Nat), vs = [.ref cb, .int (st : Nat)] ∧ H cb = some (.lst cv) ∧ CameAt H cv c ∧ 1 ≤ m ∧ (∀ i, i < m → ∃ u g, c[seqC c st i]? = some (some (u, g))) ∧ seqC c st m = st ∧ (∀ i, 1 ≤ i → i < m → seqC c st i ≠ st) ∧
  ∀ H' t s, Same H H' → H' t = some (.tup [.int s, .int (m : Nat)]) → Pth c st st s m → Q (.ref t) H'
theorem ok_measured {f : Addr} {fd : FuncData} {k : Nat} (F : Fun K "_measured" "_measured" s_measured f fd) : FnOk P w K mg base CX0 (k + 1) f fd ["came_by", "start"] spMeasured := by
  refine F.ok sc_measured (fun vs H Q E h => ?_) (fun cdv A outer s H vs Q E hr h => ?_)
  · obtain ⟨cb, cv, c, st, m, rfl, _⟩ := h; rfl
  · obtain ⟨cb, cv, c, st, m, rfl, hcb, hc, m1, hs, hm, hn, q⟩ := h
    refine ⟨_, pss_cons (ps_asg (pe_ix ix_list (pv 0) (pv 1) (fun _ _ => rfl)) (pg_tup rfl (pgs_cons (pg_name (i := 2) sc_measured.nd rfl (.inl rfl)) (pgs_cons (pg_name (i := 3) sc_measured.nd rfl (.inl rfl)) pgs_nil))))
      (pss_cons (ps_set (i := 4) sc_measured.nd rfl (.inl rfl) pe_int)
      (pss_cons (ps_while PassesOwn.never (pt_cmpR op_ne (pv 2) (pv 1) (nomark _))
        (pss_cons (ps_asg (pe_ix ix_list (pv 0) (pv 2) (fun _ _ => rfl)) (pg_tup rfl (pgs_cons (pg_name (i := 2) sc_measured.nd rfl (.inl rfl)) (pgs_cons (pg_name (i := 5) sc_measured.nd rfl (.inl rfl)) pgs_nil))))
        (pss_cons (ps_aug (i := 3) sc_measured.nd rfl (.inl rfl) (pv 5) ip_add)
        (pss_one (ps_aug (i := 4) sc_measured.nd rfl (.inl rfl) pe_int ip_add)))))
      (pss_one (ps_ret (pe_tup (pa_cons (pv 3) (pa_cons (pv 4) pa_nil))))))), ?_⟩
    have big : 1000 ≤ sizeLine := by rw [sizeLine_eq]; decide
    obtain ⟨u0, g0, e0⟩ := hs 0 (by omega)
    obtain ⟨t0, ht0, hh0⟩ := hc.at e0
    have ht0 : cv[st]? = some (V.ref t0) := ht0
    refine ⟨.ref cb, rfl, .int (st : Nat), rfl, cb, cv, (st : Nat), .ref t0, rfl, rfl, .of hcb, atI_nat ht0, t0, _, rfl, .of hh0, rfl, _, _, rfl, _, _, rfl, rfl, ?_⟩
    have n0 : seqC c st 1 = u0 := nxtC_eq e0
    refine ⟨fun r σ H' => ∃ (i : Nat) (s : Int) (v5 : Option V), σ = [some (.ref cb), some (.int (st : Nat)), some (.int (seqC c st (i + 1) : Nat)), some (.int s), some (.int ((i + 1 : Nat) : Int)), v5] ∧ H' = H ∧ i + 1 ≤ m ∧ Pth c st (seqC c st (i + 1)) s (i + 1) ∧ r = m - (i + 1), ⟨_, 0, g0, _, by rw [n0]; rfl, rfl, m1, by rw [n0]; exact .one e0, rfl⟩, ?_⟩
    rintro r σ H' ⟨i, s, v5, rfl, rfl, him, hp, rfl⟩
    refine ⟨.int (seqC c st (i + 1) : Nat), rfl, .int (st : Nat), rfl, rfl, _, rfl, ?_⟩
    by_cases e : i + 1 = m
    · have en : seqC c st (i + 1) = st := by rw [e]; exact hm
      rw [en, decide_eq_true rfl]
      rw [en] at hp
      refine iteF ⟨.int s, rfl, .int ((i + 1 : Nat) : Int), rfl, by show 2 ≤ sizeLine; omega, fun t nt => ?_⟩
      rw [e] at hp
      exact q _ t s (same_new nt) (by rw [upd_same, e]) hp
    · have ne : seqC c st (i + 1) ≠ st := hn (i + 1) (by omega) (by omega)
      rw [decide_eq_false (show ¬ V.int (seqC c st (i + 1) : Nat) = V.int (st : Nat) from fun z => ne (by have := V.int.inj z; omega))]
      obtain ⟨u, g, eu⟩ := hs (i + 1) (by omega)
      obtain ⟨t, ht, hh⟩ := hc.at eu
      have nx : seqC c st (i + 1 + 1) = u := nxtC_eq eu
      refine iteT ⟨fun σ' H'' => ∃ (s : Int) (v5 : Option V), σ' = [some (.ref cb), some (.int (st : Nat)), some (.int (seqC c st (i + 1 + 1) : Nat)), some (.int s), some (.int ((i + 1 + 1 : Nat) : Int)), v5] ∧ H'' = H' ∧ Pth c st (seqC c st (i + 1 + 1)) s (i + 1 + 1), fun σ' H'' ⟨s, v5, z1, z2, z3⟩ => ⟨_, (by omega : m - (i + 1 + 1) < m - (i + 1)), i + 1, s, v5, z1, z2, by omega, z3, rfl⟩, ?_⟩
      refine ⟨.ref cb, rfl, .int (seqC c st (i + 1) : Nat), rfl, cb, cv, (seqC c st (i + 1) : Nat), .ref t, rfl, rfl, .of hcb, atI_nat ht, t, _, rfl, .of hh, rfl, _, _, rfl, _, _, rfl, rfl, ?_⟩
      refine ⟨.int s, rfl, .int g, rfl, _, _, rfl, rfl, .int ((i + 1 : Nat) : Int), rfl, _, _, rfl, rfl, s + g, some (.int g), ?_, rfl, ?_⟩
      · rw [nx, Int.natCast_succ (i + 1)]; rfl
      · rw [nx]; exact hp.app (.one eu)
end
end Sg
set_option Elab.async false
set_option linter.all false
set_option maxRecDepth 100000
set_option maxHeartbeats 4000000
namespace Sg
open PySem PySem.Spec PyProof.Rows L2 StX
/-! ## nodes that were seen, and from which start -/
abbrev SnL := List (Nat × Nat)
def snD (L : SnL) : List (L2.Key × V) := L.map fun x => (Sum.inl (x.1 : Int), V.int (x.2 : Nat))
def snV (L : SnL) (v : Nat) : Option Nat := (L.find? fun x => decide (x.1 = v)).map (·.2)
theorem snD_at (L : SnL) (v : Nat) : valV (snD L) (Sum.inl (v : Int)) = (snV L v).map fun s => V.int (s : Nat) := by
  induction L with
  | nil => rfl
  | cons x L ih =>
    by_cases e : x.1 = v
    · have a : valV (snD (x :: L)) (Sum.inl (v : Int)) = some (V.int (x.2 : Nat)) := valV_pos (p := ((Sum.inl (x.1 : Int) : L2.Key), V.int (x.2 : Nat))) (by rw [e])
      have b : snV (x :: L) v = some x.2 := by simp [snV, List.find?_cons, e]
      rw [a, b]; rfl
    · have a : valV (snD (x :: L)) (Sum.inl (v : Int)) = valV (snD L) (Sum.inl (v : Int)) := valV_neg (p := ((Sum.inl (x.1 : Int) : L2.Key), V.int (x.2 : Nat))) (fun z => e (by have := Sum.inl.inj z; omega))
      have b : snV (x :: L) v = snV L v := by simp [snV, List.find?_cons, e]
      rw [a, b]; exact ih
theorem snV_none {L : SnL} {v : Nat} (h : snV L v = none) : ∀ x ∈ L, x.1 ≠ v := fun x hx e => by
  unfold snV at h
  rw [Option.map_eq_none_iff, List.find?_eq_none] at h
  exact h x hx (decide_eq_true e)
theorem snV_some {L : SnL} {v s : Nat} (h : snV L v = some s) : (v, s) ∈ L := by
  unfold snV at h
  obtain ⟨x, hx, rfl⟩ := Option.map_eq_some_iff.mp h
  have h1 := List.mem_of_find?_eq_some hx
  have h2 : decide (x.1 = v) = true := List.find?_some (p := fun x : Nat × Nat => decide (x.1 = v)) hx
  have h2 := of_decide_eq_true h2
  rw [← h2]; exact h1
theorem snD_put {L : SnL} {v s : Nat} (h : snV L v = none) : putK (snD L) (Sum.inl (v : Int)) (V.int (s : Nat)) = snD (L ++ [(v, s)]) := by
  rw [putK_new _ (by rw [snD_at, h]; rfl)]
  unfold snD
  rw [List.map_append]; rfl
/-- the nodes on the way from a start -/
def wayS (c : Came) (st j : Nat) : SnL := (List.range j).map fun k => (seqC c st k, st)
theorem wayS_succ (c : Came) (st j : Nat) : wayS c st (j + 1) = wayS c st j ++ [(seqC c st j, st)] := by
  unfold wayS
  rw [List.range_succ, List.map_append]; rfl
structure SnOk (c : Came) (L : SnL) (i : Nat) : Prop where
  nd : (L.map (·.1)).Nodup
  inN : ∀ x ∈ L, x.1 < c.length
  good : ∀ x ∈ L, GoodV c x.1 ∧ x.2 < i
theorem snOk_len {c : Came} {L : SnL} (nd : (L.map (·.1)).Nodup) (inN : ∀ x ∈ L, x.1 < c.length) : L.length ≤ c.length := by
  have := nodup_len_le (L.map (·.1)) (List.range c.length) nd fun v hv => by
    obtain ⟨x, hx, rfl⟩ := List.mem_map.mp hv
    exact List.mem_range.mpr (inN x hx)
  rw [List.length_map, List.length_range] at this
  exact this
theorem nd_snoc {L : SnL} {x : Nat × Nat} (nd : (L.map (·.1)).Nodup) (h : ∀ y ∈ L, y.1 ≠ x.1) : ((L ++ [x]).map (·.1)).Nodup := by
  rw [List.map_append, List.nodup_append]
  refine ⟨nd, List.nodup_cons.mpr ⟨(fun z => nomatch z), List.nodup_nil⟩, fun a ha b hb => ?_⟩
  obtain ⟨y, hy, rfl⟩ := List.mem_map.mp ha
  obtain rfl := List.mem_singleton.mp hb
  exact h y hy
/-- each way stays among the nodes -/
def WfC (c : Came) : Prop := ∀ (v u : Nat) (g : Int), c[v]? = some (some (u, g)) → u < c.length
theorem seq_lt {c : Came} (W : WfC c) {st : Nat} (hs : st < c.length) {j : Nat} (on : ∀ k, k < j → OnC c (seqC c st k)) : ∀ i, i ≤ j → seqC c st i < c.length
  | 0, _ => hs
  | i + 1, hi => by
    obtain ⟨u, g, e⟩ := on i (by omega)
    show nxtC c (seqC c st i) < _
    rw [nxtC_eq e]
    exact W _ _ _ e
section
variable {P : Program} {w : World} {K : PySem.W.Frag} {mg : Str → Option Value} {base : Heap}
/-! ### _cycle_of -/
def spCycleOf : Sp := fun vs H Q _ => ∃ (cb : Addr) (cv : List V) (c : Came), vs = [.ref cb] ∧ H cb = some (.lst cv) ∧ CameAt H cv c ∧ WfC c ∧ c.length ≤ 1000000 ∧
  (∀ H', Same H H' → (∀ v, v < c.length → GoodV c v) → Q .non H') ∧
  ∀ H' t s (v m : Nat), Same H H' → H' t = some (.tup [.int s, .int (m : Nat)]) → Pth c v v s m → m ≤ c.length → Q (.ref t) H'
theorem ok_cycle_of {f f1 : Addr} {fd fd1 : FuncData} {k : Nat} (F : Fun K "_cycle_of" "_cycle_of" s_cycle_of f fd)
    (G1 : FnOk P w K mg base CX0 k f1 fd1 ["came_by", "start"] spMeasured) (kp1 : PySem.W.keepIn K (.ref f1) = true) (b1 : Binds K fd1 ["came_by", "start"] []) (g1 : mg "_measured" = some (.ref f1))
    (m1 : mg "range" = none) (m2 : mg "len" = none) : FnOk P w K mg base CX0 (k + 1) f fd ["came_by"] spCycleOf := by
  refine F.ok sc_cycle_of (fun vs H Q E h => ?_) (fun cdv A outer s H vs Q E hr h => ?_)
  · obtain ⟨cb, cv, c, rfl, _⟩ := h; rfl
  · obtain ⟨cb, cv, c, rfl, hcb, hc, W, lN, qn, qs⟩ := h
    have hu2 := hu_of hr
    refine ⟨_, pss_cons (ps_set (i := 1) sc_cycle_of.nd rfl (.inl rfl) pe_dnewK)
      (pss_cons (ps_for PassesOwn.never rfl (pi_range1 (by rfl) m1 (pa_cons (pe_callB call_len_seq (by rfl) m2 PySem.boot_len (pa_cons (pv 0) pa_nil)) pa_nil)) (pg_name (i := 2) sc_cycle_of.nd rfl (.inl rfl))
        (pss_cons (ps_set (i := 3) sc_cycle_of.nd rfl (.inl rfl) (pv 2))
        (pss_cons (ps_while PassesOwn.never (PW.pt (pw_and (pt_cmp (pc_dnotin hu2 (pv 3) (pv 1))) (pw_and1 (pt_cmpR op_notN (pe_ix ix_list (pv 0) (pv 3) (fun _ _ => rfl)) pe_non (nomark _)))))
          (pss_cons (ps_dput hu2 (pv 1) (pv 3) (pv 2) rfl)
          (pss_one (ps_asg (pe_ix ix_list (pv 0) (pv 3) (fun _ _ => rfl)) (pg_tup rfl (pgs_cons (pg_name (i := 3) sc_cycle_of.nd rfl (.inl rfl)) (pgs_cons (pg_name (i := 4) sc_cycle_of.nd rfl (.inl rfl)) pgs_nil)))))))
        (pss_one (ps_if (pt_cmpR op_eq (pe_dget1 hu2 (pv 1) (pv 3) ⟨by rfl, by rfl, by rfl, by rfl⟩) (pv 2) (nomark _))
          (pss_one (ps_ret (pe_call G1 hr (by rfl) g1 kp1 b1 .nil pass0 (pa_cons (pv 0) (pa_cons (pv 3) pa_nil))))) pss_nil)))))
      (pss_one (ps_ret pe_non))), ?_⟩
    have big : 10000000 ≤ sizeLine := by rw [sizeLine_eq]; decide
    have lcv : cv.length = c.length := Paired.length hc
    intro S nS
    have e1 : Same H (upd H S (.dK [])) := same_new nS
    have hS1 : (upd H S (.dK [])) S = some (.dK (snD [])) := upd_same
    generalize upd H S (.dK []) = H1 at e1 hS1 ⊢
    refine ⟨.ref cb, rfl, cb, cv, rfl, .inl (.of (e1 _ _ hcb)), (cv.length : Nat), rfl, by omega, by omega, ?_⟩
    refine for_range (lo := 0) (n := ((cv.length : Nat) : Int).toNat) (fun i σ H' => ∃ v2 v3 v4 L, σ = [some (.ref cb), some (.ref S), v2, v3, v4] ∧ Same H H' ∧ H' S = some (.dK (snD L)) ∧ SnOk c L i ∧ ∀ v, v < i → GoodV c v)
      ⟨_, _, _, [], rfl, e1, hS1, ⟨List.nodup_nil, fun x hx => (nomatch hx), fun x hx => (nomatch hx)⟩, fun v hv => absurd hv (Nat.not_lt_zero v)⟩ ?_ ?_
    rotate_left
    · rintro σ H2 ⟨v2, v3, v4, L, rfl, e2, hS2, hL, hg⟩
      rw [Int.toNat_natCast, lcv] at hg
      exact qn H2 e2 hg
    rintro i σ H2 hi ⟨v2, v3, v4, L, rfl, e2, hS2, hL, hg⟩
    rw [Int.toNat_natCast, lcv] at hi
    rw [Int.zero_add]
    refine ⟨.int (i : Nat), rfl, ?_⟩
    -- what is kept while the way is gone
    refine ⟨fun r σ H' => ∃ (j : Nat) (v4 : Option V), σ = [some (.ref cb), some (.ref S), some (.int (i : Nat)), some (.int (seqC c i j : Nat)), v4] ∧ Same H H' ∧ H' S = some (.dK (snD (L ++ wayS c i j))) ∧ (∀ k, k < j → OnC c (seqC c i k)) ∧ ((L ++ wayS c i j).map (·.1)).Nodup ∧ r = c.length + 1 - j,
      ⟨_, 0, _, rfl, e2, by show H2 S = some (.dK (snD (L ++ []))); rw [List.append_nil]; exact hS2, fun k hk => absurd hk (Nat.not_lt_zero k), by show ((L ++ ([] : SnL)).map fun x => x.1).Nodup; rw [List.append_nil]; exact hL.nd, rfl⟩, ?_⟩
    rintro r σ H3 ⟨j, v4, rfl, e3, hS3, on, nd, rfl⟩
    have nlt := seq_lt W hi on
    have inN : ∀ x ∈ L ++ wayS c i j, x.1 < c.length := fun x hx => by
      rcases List.mem_append.mp hx with hx | hx
      · exact hL.inN x hx
      · obtain ⟨k, hk, rfl⟩ := List.mem_map.mp hx
        exact nlt k (Nat.le_of_lt (List.mem_range.mp hk))
    have lL := snOk_len nd inN
    have ljw : (wayS c i j).length = j := by unfold wayS; rw [List.length_map, List.length_range]
    have lLj : (L ++ wayS c i j).length = L.length + j := by rw [List.length_append, ljw]
    have hj : j ≤ c.length := by omega
    have hcb3 := e3 _ _ hcb
    have hc3 := hc.keep (.of e3)
    have gput : GoodV c (seqC c i j) → SnOk c (L ++ wayS c i j) (i + 1) ∧ ∀ v, v < i + 1 → GoodV c v := fun hgd => by
      have hb := good_back on hgd
      refine ⟨⟨nd, inN, fun x hx => ?_⟩, fun v hv => ?_⟩
      · rcases List.mem_append.mp hx with hx | hx
        · have := hL.good x hx
          exact ⟨this.1, by omega⟩
        · obtain ⟨k, hk, rfl⟩ := List.mem_map.mp hx
          exact ⟨hb k (Nat.le_of_lt (List.mem_range.mp hk)), by show i < i + 1; omega⟩
      · by_cases z : v = i
        · rw [z]; exact hb 0 (Nat.zero_le _)
        · exact hg v (by omega)
    -- what follows the way
    have hget : ∀ H', H' S = some (.dK (snD (L ++ wayS c i j))) → DGet H' S (.int (seqC c i j : Nat)) ((snV (L ++ wayS c i j) (seqC c i j)).map fun s => V.int (s : Nat)) := fun H' hH => by
      rw [← snD_at]
      exact DGet.k (k := Sum.inl ((seqC c i j : Nat) : Int)) hH
    refine ⟨.int (seqC c i j : Nat), rfl, .ref S, rfl, S, _, rfl, hget H3 hS3, _, rfl, ?_⟩
    cases hv : snV (L ++ wayS c i j) (seqC c i j) with
    | some s =>
      refine iteF (iteF ?_)
      refine ⟨.ref S, rfl, S, rfl, .inl ⟨_, .inl hS3⟩, .int (seqC c i j : Nat), rfl, _, hget H3 hS3, ?_⟩
      rw [hv]
      refine ⟨.int (i : Nat), rfl, rfl, _, rfl, ?_⟩
      have hm := snV_some hv
      rcases List.mem_append.mp hm with hm | hm
      · have hgd := hL.good _ hm
        have hne : ¬ V.int (s : Nat) = V.int (i : Nat) := fun z => by have := V.int.inj z; have := hgd.2; omega
        rw [show decide (((some s).map fun s : Nat => V.int (s : Nat)).getD .non = V.int (i : Nat)) = false from decide_eq_false hne]
        obtain ⟨g1', g2'⟩ := gput hgd.1
        exact iteF ⟨_, _, _, _, rfl, e3, hS3, g1', g2'⟩
      · obtain ⟨k, hk, ek⟩ := List.mem_map.mp hm
        obtain ⟨ek1, rfl⟩ := Prod.mk.inj ek
        have hk := List.mem_range.mp hk
        rw [show decide (((some i).map fun s : Nat => V.int (s : Nat)).getD .non = V.int (i : Nat)) = true from decide_eq_true rfl]
        obtain ⟨m, hm1, hm2, hm3, hm4, hm5⟩ := back_cycle on hk ek1.symm
        refine iteT ⟨.ref cb, rfl, .int (seqC c i j : Nat), rfl, cb, cv, c, seqC c i j, m, rfl, hcb3, hc3, hm1, hm3, hm4, hm5, fun H' t s es ht hp => ?_⟩
        exact qs H' t s _ m (e3.trans es) ht hp (by omega)
    | none =>
      have hnew := snV_none hv
      refine iteT ?_
      have hlt := nlt j (Nat.le_refl _)
      have hlv : seqC c i j < cv.length := by omega
      obtain ⟨o, ho, ha⟩ := paired_get hc3 (List.getElem?_eq_getElem hlv)
      refine ⟨.ref cb, rfl, .int (seqC c i j : Nat), rfl, cb, cv, (seqC c i j : Nat), cv[seqC c i j], rfl, rfl, .of hcb3, atI_nat (List.getElem?_eq_getElem hlv), rfl, _, rfl, ?_⟩
      generalize hu : cv[seqC c i j] = u at ha ⊢
      cases o with
      | none =>
        obtain rfl : u = V.non := ha
        refine iteF ?_
        refine ⟨.ref S, rfl, S, rfl, .inl ⟨_, .inl hS3⟩, .int (seqC c i j : Nat), rfl, _, hget H3 hS3, ?_⟩
        rw [hv]
        refine ⟨.int (i : Nat), rfl, rfl, _, rfl, ?_⟩
        obtain ⟨g1', g2'⟩ := gput (good_root ho)
        exact iteF ⟨_, _, _, _, rfl, e3, hS3, g1', g2'⟩
      | some y =>
        obtain ⟨t, rfl, ht⟩ := ha
        rw [show (!decide (V.ref t = V.non)) = true from rfl]
        have on' : ∀ k, k < j + 1 → OnC c (seqC c i k) := fun k hk => by
          by_cases z : k < j
          · exact on k z
          · rw [show k = j by omega]; exact ⟨_, _, ho⟩
        have nd' : ((L ++ wayS c i (j + 1)).map (·.1)).Nodup := by
          rw [wayS_succ, ← List.append_assoc]
          exact nd_snoc nd hnew
        have inN' : ∀ x ∈ L ++ wayS c i (j + 1), x.1 < c.length := fun x hx => by
          rw [wayS_succ, ← List.append_assoc] at hx
          rcases List.mem_append.mp hx with hx | hx
          · exact inN x hx
          · obtain rfl := List.mem_singleton.mp hx; exact hlt
        have lL' := snOk_len nd' inN'
        have lLj' : (L ++ wayS c i (j + 1)).length = L.length + (j + 1) := by rw [List.length_append]; unfold wayS; rw [List.length_map, List.length_range]
        refine iteT ⟨fun σ' H' => ∃ v4, σ' = [some (.ref cb), some (.ref S), some (.int (i : Nat)), some (.int (seqC c i (j + 1) : Nat)), v4] ∧ Same H H' ∧ H' S = some (.dK (snD (L ++ wayS c i (j + 1)))),
          fun σ' H' ⟨v4, z1, z2, z3⟩ => ⟨_, (by omega : c.length + 1 - (j + 1) < c.length + 1 - j), j + 1, v4, z1, z2, z3, on', nd', rfl⟩, ?_⟩
        have lsn : (snD (L ++ wayS c i j)).length = (L ++ wayS c i j).length := List.length_map _
        refine ⟨.int (i : Nat), rfl, .ref S, rfl, .int (seqC c i j : Nat), rfl, S, _, rfl, DPut.k (k := Sum.inl ((seqC c i j : Nat) : Int)) hS3 (by omega), ?_⟩
        rw [snD_put hv, List.append_assoc, ← wayS_succ]
        have e4 : Same H (upd H3 S (.dK (snD (L ++ wayS c i (j + 1))))) := fun b o z => by rw [upd_ne (ne_of_none z nS)]; exact e3 _ _ z
        have hS4 : (upd H3 S (.dK (snD (L ++ wayS c i (j + 1))))) S = some (.dK (snD (L ++ wayS c i (j + 1)))) := upd_same
        have ht4 : (upd H3 S (.dK (snD (L ++ wayS c i (j + 1))))) t = some (.tup [.int (y.1 : Nat), .int y.2]) := by rw [upd_ne (ne_of ht hS3 fun z => nomatch z)]; exact ht
        generalize upd H3 S (.dK (snD (L ++ wayS c i (j + 1)))) = H4 at e4 hS4 ht4 ⊢
        have nx : seqC c i (j + 1) = y.1 := nxtC_eq (g := y.2) ho
        refine ⟨.ref cb, rfl, .int (seqC c i j : Nat), rfl, cb, cv, (seqC c i j : Nat), .ref t, rfl, rfl, .of (e4 _ _ hcb), atI_nat (by rw [List.getElem?_eq_getElem hlv, hu]), t, _, rfl, .of ht4, rfl, _, _, rfl, _, _, rfl, rfl, some (.int y.2), ?_, e4, hS4⟩
        rw [nx]; rfl
end
end Sg
set_option Elab.async false
set_option linter.all false
set_option maxRecDepth 100000
set_option maxHeartbeats 4000000
namespace Sg
open PySem PySem.Spec PyProof.Rows L2 StX
theorem EdgesAt.keep {H H' : Hp} (e : KeepT H H') {ps : List V} {es : List Edge} (h : EdgesAt H ps es) : EdgesAt H' ps es := by
  unfold EdgesAt at h ⊢
  induction h with
  | nil => exact .nil
  | cons a t ih =>
    obtain ⟨b, rfl, hb⟩ := a
    exact .cons ⟨b, rfl, e _ _ hb⟩ ih
theorem GrAt.keep {H H' : Hp} (e : Same H H') {us : List V} {G : Gr} (h : GrAt H us G) : GrAt H' us G := by
  unfold GrAt at h ⊢
  induction h with
  | nil => exact .nil
  | cons a t ih =>
    obtain ⟨g, ps, rfl, hg, hp⟩ := a
    exact .cons ⟨g, ps, rfl, e _ _ hg, EdgesAt.keep (.of e) hp⟩ ih
theorem GrAt.ne {H : Hp} {us : List V} {G : Gr} (h : GrAt H us G) {a : Addr} (na : H a = none) : ∀ u ∈ us, u ≠ V.ref a := by
  unfold GrAt at h
  induction h with
  | nil => exact fun u hu => nomatch hu
  | cons b t ih =>
    intro u hu
    rcases List.mem_cons.mp hu with rfl | hu
    · obtain ⟨g, ps, rfl, hg, _⟩ := b
      intro z
      obtain rfl := V.ref.inj z
      rw [na] at hg
      exact nomatch hg
    · exact ih u hu
theorem flatC_one {α : Type} (n : Nat) (x : α) : (List.replicate n [x]).flatten = List.replicate n x := by
  induction n with
  | zero => rfl
  | succ n ih => rw [List.replicate_succ, List.flatten_cons, ih, List.replicate_succ]; rfl
theorem mapC_rep {α β : Type} (f : α → β) (n : Nat) (x : α) : (List.replicate n x).map f = List.replicate n (f x) := by
  rw [List.map_replicate]
theorem came_none (H : Hp) (n : Nat) : CameAt H (List.replicate n V.non) (List.replicate n none) := by
  unfold CameAt
  induction n with
  | zero => exact .nil
  | succ n ih => rw [List.replicate_succ, List.replicate_succ]; exact .cons rfl ih
theorem PriOk.mk' {hi : Int × Int} {G : Gr} {s : PriS} (h : PriOk hi G s) : PriOk hi G (s.1, s.2.1, false) := ⟨h.lp, h.lc, h.came, h.edge, h.root, h.low⟩
theorem PriOk.wf {hi : Int × Int} {G : Gr} {s : PriS} (h : PriOk hi G s) : WfC s.2.1 := fun v u g e => by
  obtain ⟨es, l, hes, _⟩ := h.edge v u g e
  rw [h.lc]
  exact (List.getElem?_eq_some_iff.mp hes).1
/-- a bound of all weights -/
def mostW (hi : Int × Int) : Int := (hi.2.natAbs * 1000000000000 + hi.1.natAbs : Nat)
theorem mostW_ok {hi : Int × Int} {G : Gr} (sm : SmallG G) : ∀ es ∈ G, ∀ e ∈ es, wgt hi e.2.1 ≤ mostW hi := fun es hes e he => by
  have h := sm es hes e he
  unfold wgt mostW
  have h1 : hi.2 * e.2.1 ≤ ((hi.2 * e.2.1).natAbs : Int) := Int.le_natAbs
  rw [Int.natAbs_mul] at h1
  have h2 : hi.2.natAbs * e.2.1.natAbs ≤ hi.2.natAbs * 1000000000000 := Nat.mul_le_mul_left _ h
  omega
section
variable {P : Program} {w : World} {K : PySem.W.Frag} {mg : Str → Option Value} {base : Heap}
/-! ### _settled -/
def spSettled : Sp := fun vs H Q _ => ∃ (g h : Addr) (us : List V) (G : Gr) (hi : Int × Int), vs = [.ref g, .ref h] ∧ H g = some (.lst us) ∧ GrAt H us G ∧ H h = some (.tup [.int hi.1, .int hi.2]) ∧ WfG G ∧ SmallG G ∧ G.length ≤ 1000000 ∧
  (∀ H' t pr (p : List Int), Same H H' → H' t = some (.tup [.ref pr, .non]) → H' pr = some (.lst (p.map V.int)) → p.length = G.length → Cert hi G p → (∀ v, 0 ≤ prc p v) → Q (.ref t) H') ∧
  ∀ H' t cy s (v m : Nat), Same H H' → H' t = some (.tup [.non, .ref cy]) → H' cy = some (.tup [.int s, .int (m : Nat)]) → Wlk G v v s m → 1 ≤ m → m ≤ G.length → 0 < hi.2 * s - (m : Nat) * hi.1 → Q (.ref t) H'
theorem ok_settled {f f1 f2 : Addr} {fd fd1 fd2 : FuncData} {k : Nat} (F : Fun K "_settled" "_settled" s_settled f fd)
    (G1 : FnOk P w K mg base CX0 k f1 fd1 ["graph", "highest", "prices", "came_by"] spRaise) (kp1 : PySem.W.keepIn K (.ref f1) = true) (b1 : Binds K fd1 ["graph", "highest", "prices", "came_by"] []) (g1 : mg "_raise_prices" = some (.ref f1))
    (G2 : FnOk P w K mg base CX0 k f2 fd2 ["came_by"] spCycleOf) (kp2 : PySem.W.keepIn K (.ref f2) = true) (b2 : Binds K fd2 ["came_by"] []) (g2 : mg "_cycle_of" = some (.ref f2))
    (m1 : mg "len" = none) : FnOk P w K mg base CX0 (k + 1) f fd ["graph", "highest"] spSettled := by
  refine F.ok sc_settled (fun vs H Q E h => ?_) (fun cdv A outer s H vs Q E hr h => ?_)
  · obtain ⟨g, h', us, G, hi, rfl, _⟩ := h; rfl
  · obtain ⟨g, h', us, G, hi, rfl, hg, hG, hh, W, sm, lN, qp, qc⟩ := h
    refine ⟨_, pss_cons (ps_set (i := 2) sc_settled.nd rfl (.inl rfl) (pe_op op_rep (pe_lst (pa_cons pe_int pa_nil)) (pe_callB call_len_seq (by rfl) m1 PySem.boot_len (pa_cons (pv 0) pa_nil))))
      (pss_cons (ps_set (i := 3) sc_settled.nd rfl (.inl rfl) (pe_op op_rep (pe_lst (pa_cons pe_non pa_nil)) (pe_callB call_len_seq (by rfl) m1 PySem.boot_len (pa_cons (pv 0) pa_nil))))
      (pss_cons (ps_while PassesOwn.never (pt_val (pe_call G1 hr (by rfl) g1 kp1 b1 .nil pass0 (pa_cons (pv 0) (pa_cons (pv 1) (pa_cons (pv 2) (pa_cons (pv 3) pa_nil))))))
        (pss_cons (ps_set (i := 4) sc_settled.nd rfl (.inl rfl) (pe_call G2 hr (by rfl) g2 kp2 b2 .nil pass0 (pa_cons (pv 3) pa_nil)))
        (pss_one (ps_if (pt_cmpR op_notN (pv 4) pe_non (nomark _)) (pss_one (ps_ret (pe_tup (pa_cons pe_non (pa_cons (pv 4) pa_nil))))) pss_nil))))
      (pss_one (ps_ret (pe_tup (pa_cons (pv 2) (pa_cons pe_non pa_nil))))))), ?_⟩
    have big : 10000000 ≤ sizeLine := by rw [sizeLine_eq]; decide
    have lG : us.length = G.length := Paired.length hG
    refine ⟨by show 1 ≤ sizeLine; omega, fun a1 na1 => ?_⟩
    have e1 := same_new (o := .lst [V.int 0]) na1
    have ha1 : (upd H a1 (.lst [V.int 0])) a1 = some (.lst [V.int 0]) := upd_same
    generalize upd H a1 (.lst [V.int 0]) = H1 at e1 ha1 ⊢
    refine ⟨.ref g, rfl, g, us, rfl, .inl (.of (e1 _ _ hg)), a1, (us.length : Nat), _, rfl, rfl, ha1, by omega, by omega, by show 1 * us.length ≤ _; omega, fun pr npr => ?_⟩
    rw [Int.toNat_natCast, flatC_one, lG]
    have e2 := same_new (o := .lst (List.replicate G.length (V.int 0))) npr
    have hp2 : (upd H1 pr (.lst (List.replicate G.length (V.int 0)))) pr = some (.lst ((List.replicate G.length (0 : Int)).map V.int)) := by rw [upd_same, mapC_rep]
    have nprH := freeS e1 npr
    have e12 := e1.trans e2
    generalize upd H1 pr (.lst (List.replicate G.length (V.int 0))) = H2 at e2 hp2 e12 ⊢
    refine ⟨by show 1 ≤ sizeLine; omega, fun a3 na3 => ?_⟩
    have e3 := same_new (o := .lst [V.non]) na3
    have ha3 : (upd H2 a3 (.lst [V.non])) a3 = some (.lst [V.non]) := upd_same
    have hp3 := e3 _ _ hp2
    have e13 := e12.trans e3
    generalize upd H2 a3 (.lst [V.non]) = H3 at e3 ha3 hp3 e13 ⊢
    refine ⟨.ref g, rfl, g, us, rfl, .inl (.of (e13 _ _ hg)), a3, (us.length : Nat), _, rfl, rfl, ha3, by omega, by omega, by show 1 * us.length ≤ _; omega, fun cb ncb => ?_⟩
    rw [Int.toNat_natCast, flatC_one, lG]
    have e4 := same_new (o := .lst (List.replicate G.length V.non)) ncb
    have hc4 : (upd H3 cb (.lst (List.replicate G.length V.non))) cb = some (.lst (List.replicate G.length V.non)) := upd_same
    have hp4 := e4 _ _ hp3
    have ncbH := freeS e13 ncb
    have npc : pr ≠ cb := ne_of_none hp3 ncb
    have e14 := e13.trans e4
    generalize upd H3 cb (.lst (List.replicate G.length V.non)) = H4 at e4 hc4 hp4 e14 ⊢
    have M0 : 0 ≤ mostW hi := Int.natCast_nonneg _
    have hM := mostW_ok (hi := hi) sm
    refine ⟨fun r σ H' => ∃ v4 p c, σ = [some (.ref g), some (.ref h'), some (.ref pr), some (.ref cb), v4] ∧ Same H H' ∧ PriAt H' pr cb p c ∧ PriOk hi G (p, c, false) ∧ r = roomP G (mostW hi) p,
      ⟨_, _, _, _, rfl, e14, ⟨hp4, _, hc4, came_none _ _⟩, start_ok hi G, rfl⟩, ?_⟩
    rintro r σ H5 ⟨v4, p, c, rfl, e5, hP, ok, rfl⟩
    have hg5 := e5 _ _ hg
    have hG5 := hG.keep e5
    obtain ⟨cv, hcv, hca⟩ := hP.came
    refine ⟨.ref g, rfl, .ref h', rfl, .ref pr, rfl, .ref cb, rfl, g, h', pr, cb, us, G, hi, p, c, rfl, hg5, hG5, e5 _ _ hh, hP, npc, ne_of_none hg nprH, ne_of_none hg ncbH, fun u hu => ⟨hG.ne nprH u hu, hG.ne ncbH u hu⟩, W, sm, ok.lp, ok.lc, fun H6 b6 hP6 => ?_⟩
    obtain ⟨ok6, ri6, _⟩ := raiseUp_ok W ok G.length (Nat.le_refl _)
    have e6 : Same H H6 := fun b o z => b6 b o (ne_of_none z nprH) (ne_of_none z ncbH) (e5 _ _ z)
    cases hb : (raiseUp hi G (p, c, false) G.length).2.2 with
    | false =>
      obtain ⟨es, ct⟩ := pass_cert W ok hb
      rw [es] at hP6
      refine ⟨false, rfl, iteF ⟨.ref pr, rfl, by show 2 ≤ sizeLine; omega, fun t nt => ?_⟩⟩
      have et := same_new (o := .tup [V.ref pr, V.non]) nt
      exact qp _ t pr p (e6.trans et) upd_same (et _ _ hP6.pri) ok.lp ct ok.low
    | true =>
      obtain ⟨cv6, hcv6, hca6⟩ := hP6.came
      refine ⟨true, rfl, iteT ⟨fun σ' H' => ∃ v4 p' c', σ' = [some (.ref g), some (.ref h'), some (.ref pr), some (.ref cb), v4] ∧ Same H H' ∧ PriAt H' pr cb p' c' ∧ PriOk hi G (p', c', false) ∧ roomP G (mostW hi) p' < roomP G (mostW hi) p,
        fun σ' H' ⟨v4, p', c', z1, z2, z3, z4, z5⟩ => ⟨_, z5, v4, p', c', z1, z2, z3, z4, rfl⟩, ?_⟩⟩
      have lc6 := ok6.lc
      refine ⟨.ref cb, rfl, cb, cv6, _, rfl, hcv6, hca6, ok6.wf, by omega, fun H7 e7 good => ?_, fun H7 t s v m e7 ht hpth hm => ?_⟩
      · refine ⟨.non, rfl, rfl, _, rfl, iteF ⟨_, _, _, rfl, e6.trans e7, ⟨e7 _ _ hP6.pri, _, e7 _ _ hcv6, hca6.keep (.of e7)⟩, ok6.mk', ?_⟩⟩
        refine room_less W ok rfl M0 hM hb fun v r n kk => ?_
        have hv : v < (raiseUp hi G (p, c, false) G.length).2.1.length := by
          cases kk with
          | one e => exact (List.getElem?_eq_some_iff.mp e).1
          | cons e _ => exact (List.getElem?_eq_some_iff.mp e).1
        exact good_free (good v hv) r n kk
      · refine ⟨.ref t, rfl, rfl, _, rfl, iteT ⟨.ref t, rfl, by show 2 ≤ sizeLine; omega, fun x nx => ?_⟩⟩
        have ex := same_new (o := .tup [V.non, V.ref t]) nx
        exact qc _ x t s v m ((e6.trans e7).trans ex) upd_same (ex _ _ ht) (pth_walk ok6.edge hpth) hpth.pos (by omega) (ok6.came.cyc v s m hpth)
end
end Sg
set_option Elab.async false
set_option linter.all false
set_option maxRecDepth 100000
set_option maxHeartbeats 4000000
namespace Sg
open PySem PySem.Spec PyProof.Rows L2 StX
theorem Wlk.most {G : Gr} (sm : SmallG G) {v x : Nat} {s : Int} {n : Nat} (k : Wlk G v x s n) : s ≤ (n : Nat) * 1000000000000 := by
  induction k with
  | nil => exact Int.le_refl _
  | @cons v x es e s n hv he _ ih =>
    have := sm es (List.mem_of_getElem? hv) e he
    rw [Int.natCast_succ, Int.add_mul, Int.one_mul]
    omega
/-- a fraction in lowest terms -/
structure LowF (hi : Int × Int) : Prop where
  pos : 0 < hi.2
  top : 0 ≤ hi.1
  low : Nat.gcd hi.1.natAbs hi.2.natAbs = 1
/-- some cycle has this mean -/
def HasMean (G : Gr) (hi : Int × Int) : Prop := ∃ (v : Nat) (s : Int) (m : Nat), Wlk G v v s m ∧ 1 ≤ m ∧ hi.2 * s = (m : Nat) * hi.1
def fracN (s : Int) (m : Nat) : Int × Int := (s / (Nat.gcd s.natAbs m : Nat), ((m : Nat) : Int) / (Nat.gcd s.natAbs m : Nat))
theorem fracN_ok {s : Int} {m : Nat} (hs : 0 ≤ s) (hm : 1 ≤ m) : LowF (fracN s m) ∧ (fracN s m).2 * s = (m : Nat) * (fracN s m).1 := by
  obtain ⟨t, rfl⟩ : ∃ t : Nat, s = (t : Nat) := ⟨s.toNat, by omega⟩
  unfold fracN
  rw [Int.natAbs_natCast]
  have g0 : 0 < Nat.gcd t m := Nat.gcd_pos_of_pos_right _ hm
  have d1 : Nat.gcd t m ∣ t := Nat.gcd_dvd_left _ _
  have d2 : Nat.gcd t m ∣ m := Nat.gcd_dvd_right _ _
  have q1 : ((t : Nat) : Int) / (Nat.gcd t m : Nat) = ((t / Nat.gcd t m : Nat) : Int) := rfl
  have q2 : ((m : Nat) : Int) / (Nat.gcd t m : Nat) = ((m / Nat.gcd t m : Nat) : Int) := rfl
  rw [q1, q2]
  refine ⟨⟨?_, Int.natCast_nonneg _, ?_⟩, ?_⟩
  · have := Nat.div_pos (Nat.le_of_dvd hm d2) g0
    show (0 : Int) < ((m / Nat.gcd t m : Nat) : Int)
    omega
  · show Nat.gcd (Int.natAbs ((t / Nat.gcd t m : Nat) : Int)) (Int.natAbs ((m / Nat.gcd t m : Nat) : Int)) = 1
    rw [Int.natAbs_natCast, Int.natAbs_natCast]
    exact Nat.gcd_div_gcd_div_gcd_of_pos_right hm
  · show ((m / Nat.gcd t m : Nat) : Int) * (t : Nat) = (m : Nat) * ((t / Nat.gcd t m : Nat) : Int)
    rw [← Int.natCast_mul, ← Int.natCast_mul]
    congr 1
    rw [Nat.mul_comm, ← Nat.mul_div_assoc _ d2, ← Nat.mul_div_assoc _ d1, Nat.mul_comm]
section
variable {P : Program} {w : World} {K : PySem.W.Frag} {mg : Str → Option Value} {base : Heap}
/-! ### fraction -/
def spFracB : Sp := fun vs H Q _ => ∃ (a : Int) (b : Nat), vs = [.int a, .int (b : Nat)] ∧ 1 ≤ b ∧ b ≤ 1000000 ∧ ∀ p, H p = none → Q (.ref p) (L2.upd H p (.tup [.int (fracN a b).1, .int (fracN a b).2]))
theorem ok_fractionB {f : Addr} {fd : FuncData} {k : Nat} (F : Fun K "fraction" "fraction" s_fraction f fd) (g1 : mg "gcd" = some (.builtin "math.gcd")) :
    FnOk P w K mg base CX0 (k + 1) f fd ["top", "bottom"] spFracB := by
  refine F.ok sc_fraction (fun vs H Q E h => ?_) (fun cdv A outer s H vs Q E hr h => ?_)
  · obtain ⟨a, b, rfl, _⟩ := h; rfl
  · obtain ⟨a, b, rfl, hb, hb2, q⟩ := h
    refine ⟨_, pss_cons (ps_set (i := 2) sc_fraction.nd rfl (.inl rfl) (pe_callBfun cr_gcd (by rfl) g1 (pa_cons (pv 0) (pa_cons (pv 1) pa_nil))))
      (pss_one (ps_ret (pe_tup (pa_cons (pe_op op_fdiv (pv 0) (pv 2)) (pa_cons (pe_op op_fdiv (pv 1) (pv 2)) pa_nil))))), ?_⟩
    have g0 : 0 < Nat.gcd a.natAbs b := Nat.gcd_pos_of_pos_right _ (by omega)
    have g2 : Nat.gcd a.natAbs b ≤ b := Nat.gcd_le_right _ (by omega)
    refine ⟨.int a, rfl, .int (b : Nat), rfl, a, (b : Nat), rfl, ?_⟩
    rw [Int.natAbs_natCast]
    unfold fracN at q
    generalize Nat.gcd a.natAbs b = g at g0 g2 q ⊢
    exact ⟨.int a, rfl, .int (g : Nat), rfl, a, (g : Nat), rfl, rfl, ⟨by omega, by omega⟩, .int (b : Nat), rfl, .int (g : Nat), rfl, (b : Nat), (g : Nat), rfl, rfl, ⟨by omega, by omega⟩, by show 2 ≤ sizeLine; decide, fun p np => q p np⟩
/-! ### greatest_mean -/
def spGreatest : Sp := fun vs H Q _ => ∃ (g : Addr) (us : List V) (G : Gr), vs = [.ref g] ∧ H g = some (.lst us) ∧ GrAt H us G ∧ WfG G ∧ SmallG G ∧ G.length ≤ 1000000 ∧ (∃ (v : Nat) (s : Int) (m : Nat), Wlk G v v s m ∧ 1 ≤ m ∧ 0 ≤ s) ∧
  ∀ H' t h pr hi (p : List Int), Same H H' → H' t = some (.tup [.ref h, .ref pr]) → H' h = some (.tup [.int hi.1, .int hi.2]) → H' pr = some (.lst (p.map V.int)) → p.length = G.length → Cert hi G p → (∀ v, 0 ≤ prc p v) → LowF hi → HasMean G hi → Q (.ref t) H'
/-- how the loop stands: it is done, or a cycle has a greater mean -/
def GmSt (G : Gr) (hi : Int × Int) (H : Hp) (v2 v3 : V) : Prop :=
  (∃ pr p, v2 = .ref pr ∧ v3 = .non ∧ H pr = some (.lst (p.map V.int)) ∧ p.length = G.length ∧ Cert hi G p ∧ ∀ v, 0 ≤ prc p v) ∨
  (∃ cy s, ∃ v m : Nat, v2 = .non ∧ v3 = .ref cy ∧ H cy = some (.tup [.int s, .int (m : Nat)]) ∧ Wlk G v v s m ∧ 1 ≤ m ∧ m ≤ G.length ∧ 0 < hi.2 * s - (m : Nat) * hi.1)
/-- a call of _settled, as greatest_mean makes it -/
def tSett (g : Addr) (G : Gr) (H0 : Hp) : TE := fun σ H' Q => ∃ hd hi v2' v3', σ = [some (.ref g), some (.ref hd), v2', v3'] ∧ Same H0 H' ∧ H' hd = some (.tup [.int hi.1, .int hi.2]) ∧ ∀ t H'' v2 v3, Same H0 H'' → H'' t = some (.tup [v2, v3]) → H'' hd = some (.tup [.int hi.1, .int hi.2]) → GmSt G hi H'' v2 v3 → Q (.ref t) H''
theorem ok_greatest {f f1 f2 : Addr} {fd fd1 fd2 : FuncData} {k : Nat} (F : Fun K "greatest_mean" "greatest_mean" s_greatest_mean f fd)
    (G1 : FnOk P w K mg base CX0 k f1 fd1 ["graph", "highest"] spSettled) (kp1 : PySem.W.keepIn K (.ref f1) = true) (b1 : Binds K fd1 ["graph", "highest"] []) (g1 : mg "_settled" = some (.ref f1))
    (G2 : FnOk P w K mg base CX0 k f2 fd2 ["top", "bottom"] spFracB) (kp2 : PySem.W.keepIn K (.ref f2) = true) (b2 : Binds K fd2 ["top", "bottom"] []) (g2 : mg "fraction" = some (.ref f2)) :
    FnOk P w K mg base CX0 (k + 1) f fd ["graph"] spGreatest := by
  refine F.ok sc_greatest_mean (fun vs H Q E h => ?_) (fun cdv A outer s H vs Q E hr h => ?_)
  · obtain ⟨g, us, G, rfl, _⟩ := h; rfl
  · obtain ⟨g, us, G, rfl, hg, hG, W, sm, lN, hc, q⟩ := h
    have imp : ∀ σ H' Q', tSett g G H σ H' Q' → tCall spSettled [] E0 (tCons (tVar 0) (tCons (tVar 1) tNil)) σ H' Q' := by
      rintro σ H' Q' ⟨hd, hi, v2', v3', rfl, e1, hh, hR⟩
      refine ⟨.ref g, rfl, .ref hd, rfl, ?_⟩
      refine ⟨g, hd, us, G, hi, rfl, e1 _ _ hg, hG.keep e1, hh, W, sm, lN, fun H' t pr p e ht hp lp ct nn => ?_, fun H' t cy s v m e ht hcy wk m1 mN gt => ?_⟩
      · exact hR t H' _ _ (e1.trans e) ht (e _ _ hh) (.inl ⟨pr, p, rfl, rfl, hp, lp, ct, nn⟩)
      · exact hR t H' _ _ (e1.trans e) ht (e _ _ hh) (.inr ⟨cy, s, v, m, rfl, rfl, hcy, wk, m1, mN, gt⟩)
    refine ⟨_, pss_cons (ps_set (i := 1) sc_greatest_mean.nd rfl (.inl rfl) (pe_tup (pa_cons pe_int (pa_cons pe_int pa_nil))))
      (pss_cons (ps_asg (PE.imp (t' := tSett g G H) (pe_call G1 hr (by rfl) g1 kp1 b1 .nil pass0 (pa_cons (pv 0) (pa_cons (pv 1) pa_nil))) imp) (pg_tup rfl (pgs_cons (pg_name (i := 2) sc_greatest_mean.nd rfl (.inl rfl)) (pgs_cons (pg_name (i := 3) sc_greatest_mean.nd rfl (.inl rfl)) pgs_nil))))
      (pss_cons (ps_while PassesOwn.never (pt_cmpR op_notN (pv 3) pe_non (nomark _))
        (pss_cons (ps_set (i := 1) sc_greatest_mean.nd rfl (.inl rfl) (pe_callS1 (fnR_of G2 b2) hr kp2 (by rfl) g2 pass0 (pv 3)))
        (pss_one (ps_asg (PE.imp (t' := tSett g G H) (pe_call G1 hr (by rfl) g1 kp1 b1 .nil pass0 (pa_cons (pv 0) (pa_cons (pv 1) pa_nil))) imp) (pg_tup rfl (pgs_cons (pg_name (i := 2) sc_greatest_mean.nd rfl (.inl rfl)) (pgs_cons (pg_name (i := 3) sc_greatest_mean.nd rfl (.inl rfl)) pgs_nil)))))))
      (pss_one (ps_ret (pe_tup (pa_cons (pv 1) (pa_cons (pv 2) pa_nil))))))), ?_⟩
    have big : 10000000 ≤ sizeLine := by rw [sizeLine_eq]; decide
    refine ⟨by show 2 ≤ sizeLine; omega, fun h0 nh0 => ?_⟩
    have e1 := same_new (o := .tup [V.int 0, V.int 1]) nh0
    have hh1 : (upd H h0 (.tup [V.int 0, V.int 1])) h0 = some (.tup [V.int ((0 : Int), (1 : Int)).1, V.int ((0 : Int), (1 : Int)).2]) := upd_same
    generalize upd H h0 (.tup [V.int 0, V.int 1]) = H1 at e1 hh1 ⊢
    have lf0 : LowF ((0 : Int), (1 : Int)) := ⟨by decide, by decide, by decide⟩
    refine ⟨h0, (0, 1), _, _, rfl, e1, hh1, fun t H2 v2 v3 e2 ht hh2 st => ?_⟩
    refine ⟨t, _, rfl, .of ht, rfl, _, _, rfl, _, _, rfl, rfl, ?_⟩
    refine ⟨fun r σ H' => ∃ hi hd v2 v3, σ = [some (.ref g), some (.ref hd), some v2, some v3] ∧ Same H H' ∧ H' hd = some (.tup [.int hi.1, .int hi.2]) ∧ LowF hi ∧ (HasMean G hi ∨ hi = (0, 1)) ∧ GmSt G hi H' v2 v3 ∧ r = if v3 = .non then 0 else (meansUp G.length (G.length * 1000000000000) hi).length + 1,
      ⟨_, (0, 1), h0, v2, v3, rfl, e2, hh2, lf0, .inr rfl, st, rfl⟩, ?_⟩
    clear st hh2 e2 ht
    rintro r σ H3 ⟨hi, hd, v2, v3, rfl, e3, hh3, lf, hm, st, rfl⟩
    rcases st with ⟨pr, p, rfl, rfl, hp, lp, ct, nn⟩ | ⟨cy, s, v, m, rfl, rfl, hcy, wk, m1, mN, gt⟩
    · refine ⟨.non, rfl, rfl, _, rfl, iteF ⟨.ref hd, rfl, .ref pr, rfl, by show 2 ≤ sizeLine; omega, fun x nx => ?_⟩⟩
      have ex := same_new (o := .tup [V.ref hd, V.ref pr]) nx
      refine q _ x hd pr hi p (e3.trans ex) upd_same (ex _ _ hh3) (ex _ _ hp) lp ct nn lf ?_
      rcases hm with hm | rfl
      · exact hm
      · obtain ⟨v, s, m, wk, m1, s0⟩ := hc
        have := ct.cycle wk
        exact ⟨v, s, m, wk, m1, by show (1 : Int) * s = (m : Nat) * (0 : Int); have : (1 : Int) * s ≤ (m : Nat) * (0 : Int) := this; omega⟩
    · have hs0 : 0 < s := by
        have h1 : 0 ≤ ((m : Nat) : Int) * hi.1 := Int.mul_nonneg (Int.natCast_nonneg _) lf.top
        exact Int.pos_of_mul_pos_right (by omega : 0 < hi.2 * s) lf.pos
      obtain ⟨lf', he⟩ := fracN_ok (s := s) (m := m) (by omega) m1
      refine ⟨.ref cy, rfl, rfl, _, rfl, iteT ⟨fun σ' H' => ∃ hd v2 v3, σ' = [some (.ref g), some (.ref hd), some v2, some v3] ∧ Same H H' ∧ H' hd = some (.tup [.int (fracN s m).1, .int (fracN s m).2]) ∧ GmSt G (fracN s m) H' v2 v3,
        fun σ' H' ⟨hd, v2, v3, z1, z2, z3, z4⟩ => ⟨_, ?_, fracN s m, hd, v2, v3, z1, z2, z3, lf', .inl ⟨v, s, m, wk, m1, he⟩, z4, rfl⟩, ?_⟩⟩
      · obtain ⟨t, rfl⟩ : ∃ t : Nat, s = (t : Nat) := ⟨s.toNat, by omega⟩
        have hmost := wk.most sm
        have hT : t ≤ G.length * 1000000000000 := by
          have : m * 1000000000000 ≤ G.length * 1000000000000 := Nat.mul_le_mul_right _ mN
          omega
        have := means_less (N := G.length) (T := G.length * 1000000000000) (n := m) (t := t) (hi := fracN t m) (lo := hi) m1 mN hT lf'.pos lf.pos (by rw [he, Int.mul_comm]) (by rw [Int.mul_comm hi.1, Int.mul_comm ((t : Nat) : Int)]; omega)
        rw [if_neg (show ¬ V.ref cy = V.non from fun z => nomatch z)]
        split <;> omega
      · refine ⟨.ref cy, rfl, cy, _, rfl, .inl (.of hcy), s, m, rfl, m1, by omega, fun x nx => ?_⟩
        have ex := same_new (o := .tup [V.int (fracN s m).1, V.int (fracN s m).2]) nx
        refine ⟨x, fracN s m, _, _, rfl, e3.trans ex, upd_same, fun t H5 v2 v3 e5 ht hh5 st => ?_⟩
        exact ⟨t, _, rfl, .of ht, rfl, _, _, rfl, _, _, rfl, rfl, x, v2, v3, rfl, e5, hh5, st⟩
end
end Sg
set_option Elab.async false
set_option linter.all false
set_option maxRecDepth 100000
set_option maxHeartbeats 4000000
namespace Sg
open PySem PySem.Spec PyProof.Rows L2 StX
/-! ## where edges come from -/
def srcE (u : Nat) (S : List (List Nat)) (e : Edge) : List (List Nat) := S.set e.2.2 (S.getD e.2.2 [] ++ [u])
def srcN (G : Gr) (S : List (List Nat)) (u : Nat) : List (List Nat) := (G.getD u []).foldl (srcE u) S
def srcs (G : Gr) (i : Nat) : List (List Nat) := (List.range i).foldl (srcN G) (List.replicate G.length [])
theorem srcs_succ {G : Gr} {i : Nat} {es : List Edge} (h : G[i]? = some es) : srcs G (i + 1) = es.foldl (srcE i) (srcs G i) := by
  unfold srcs
  rw [List.range_succ, List.foldl_append]
  show srcN G _ i = _
  unfold srcN
  rw [List.getD_eq_getElem?_getD, h]; rfl
theorem srcE_len (u : Nat) (S : List (List Nat)) (e : Edge) : (srcE u S e).length = S.length := List.length_set
theorem srcEs_len (u : Nat) : ∀ (es : List Edge) (S : List (List Nat)), (es.foldl (srcE u) S).length = S.length
  | [], _ => rfl
  | e :: es, S => (srcEs_len u es _).trans (srcE_len u S e)
theorem srcs_len (G : Gr) : ∀ i, (srcs G i).length = G.length
  | 0 => by unfold srcs; exact List.length_replicate
  | i + 1 => by
    unfold srcs
    rw [List.range_succ, List.foldl_append]
    show (srcN G _ i).length = _
    unfold srcN
    rw [srcEs_len]
    exact srcs_len G i
theorem srcE_at {u : Nat} {S : List (List Nat)} {e : Edge} (he : e.2.2 < S.length) (v : Nat) : (srcE u S e).getD v [] = if e.2.2 = v then S.getD v [] ++ [u] else S.getD v [] := by
  unfold srcE
  rw [List.getD_eq_getElem?_getD, List.getElem?_set]
  by_cases z : e.2.2 = v
  · subst z
    rw [if_pos rfl, if_pos rfl, if_pos he]; rfl
  · rw [if_neg z, if_neg z, List.getD_eq_getElem?_getD]
theorem srcEs_mem {u : Nat} : ∀ {es : List Edge} {S : List (List Nat)}, (∀ e ∈ es, e.2.2 < S.length) → ∀ v x, x ∈ (es.foldl (srcE u) S).getD v [] ↔ x ∈ S.getD v [] ∨ (x = u ∧ ∃ e ∈ es, e.2.2 = v)
  | [], S, _, v, x => ⟨.inl, fun h => h.elim id fun ⟨_, e, he, _⟩ => nomatch he⟩
  | e :: es, S, h, v, x => by
    have he := h e List.mem_cons_self
    have ih := srcEs_mem (u := u) (es := es) (S := srcE u S e) (fun f hf => by rw [srcE_len]; exact h f (List.mem_cons_of_mem _ hf)) v x
    show x ∈ (es.foldl (srcE u) (srcE u S e)).getD v [] ↔ _
    rw [ih, srcE_at he]
    constructor
    · rintro (k | ⟨k1, f, k2, k3⟩)
      · split at k
        · rename_i z
          rcases List.mem_append.mp k with k | k
          · exact .inl k
          · exact .inr ⟨List.mem_singleton.mp k, e, List.mem_cons_self, z⟩
        · exact .inl k
      · exact .inr ⟨k1, f, List.mem_cons_of_mem _ k2, k3⟩
    · rintro (k | ⟨rfl, f, k2, k3⟩)
      · left
        split
        · exact List.mem_append.mpr (.inl k)
        · exact k
      · rcases List.mem_cons.mp k2 with rfl | k2
        · left
          rw [if_pos k3]
          exact List.mem_append.mpr (.inr (List.mem_singleton.mpr rfl))
        · exact .inr ⟨rfl, f, k2, k3⟩
theorem srcs_mem {G : Gr} (W : WfG G) : ∀ i, i ≤ G.length → ∀ v x, x ∈ (srcs G i).getD v [] ↔ x < i ∧ ∃ es e, G[x]? = some es ∧ e ∈ es ∧ e.2.2 = v
  | 0, _, v, x => by
    unfold srcs
    show x ∈ (List.replicate G.length []).getD v [] ↔ _
    constructor
    · intro h
      rw [List.getD_eq_getElem?_getD, List.getElem?_replicate] at h
      split at h <;> exact nomatch h
    · exact fun ⟨h, _⟩ => absurd h (Nat.not_lt_zero _)
  | i + 1, hi, v, x => by
    have hG : G[i]? = some G[i] := List.getElem?_eq_getElem (by omega)
    rw [srcs_succ hG, srcEs_mem (fun e he => by rw [srcs_len]; exact W.behind _ (List.mem_of_getElem? hG) e he), srcs_mem W i (by omega)]
    constructor
    · rintro (⟨h, k⟩ | ⟨rfl, e, he, hv⟩)
      · exact ⟨by omega, k⟩
      · exact ⟨by omega, _, e, hG, he, hv⟩
    · rintro ⟨h, es, e, k1, k2, k3⟩
      by_cases z : x = i
      · subst z
        rw [hG] at k1
        obtain rfl := Option.some.inj k1
        exact .inr ⟨rfl, e, k2, k3⟩
      · exact .inl ⟨by omega, es, e, k1, k2, k3⟩
/-- few edges -/
structure FewG (G : Gr) : Prop where
  nodes : G.length ≤ 100000
  edges : ∀ es ∈ G, es.length ≤ 8
theorem srcEs_sum {u n : Nat} : ∀ {es : List Edge} {S : List (List Nat)}, (∀ e ∈ es, e.2.2 < S.length) → (∀ v, (S.getD v []).length ≤ n) → ∀ v, ((es.foldl (srcE u) S).getD v []).length ≤ n + es.length
  | [], S, _, h, v => h v
  | e :: es, S, hb, h, v => by
    have := srcEs_sum (u := u) (n := n + 1) (es := es) (S := srcE u S e) (fun f hf => by rw [srcE_len]; exact hb f (List.mem_cons_of_mem _ hf)) (fun v => by
      rw [srcE_at (hb e List.mem_cons_self)]
      have := h v
      split
      · rw [List.length_append, List.length_singleton]; omega
      · omega) v
    rw [List.length_cons]
    show ((es.foldl (srcE u) (srcE u S e)).getD v []).length ≤ _
    omega
theorem srcs_few {G : Gr} (W : WfG G) (N : FewG G) : ∀ i, i ≤ G.length → ∀ v, ((srcs G i).getD v []).length ≤ 8 * i
  | 0, _, v => by
    unfold srcs
    show ((List.replicate G.length []).getD v []).length ≤ _
    rw [List.getD_eq_getElem?_getD, List.getElem?_replicate]
    split <;> exact Nat.le_refl _
  | i + 1, hi, v => by
    have hG : G[i]? = some G[i] := List.getElem?_eq_getElem (by omega)
    rw [srcs_succ hG]
    have := srcEs_sum (u := i) (n := 8 * i) (es := G[i]) (S := srcs G i) (fun e he => by rw [srcs_len]; exact W.behind _ (List.mem_of_getElem? hG) e he) (srcs_few W N i (by omega)) v
    have := N.edges _ (List.mem_of_getElem? hG)
    omega
/-! ## lists of numbers, each in a list of its own -/
structure SrcAt (H : Hp) (as : List Addr) (X : List (List Nat)) : Prop where
  nd : as.Nodup
  len : as.length = X.length
  at_ : ∀ (v : Nat) (a : Addr) (xs : List Nat), as[v]? = some a → X[v]? = some xs → H a = some (.lst (nV xs))
theorem SrcAt.keep {H H' : Hp} {as : List Addr} {X : List (List Nat)} (h : SrcAt H as X) (e : ∀ a ∈ as, ∀ o, H a = some o → H' a = some o) : SrcAt H' as X := ⟨h.nd, h.len, fun v a xs h1 h2 => e a (List.mem_of_getElem? h1) _ (h.at_ v a xs h1 h2)⟩
theorem SrcAt.put {H : Hp} {as : List Addr} {X : List (List Nat)} (h : SrcAt H as X) {v : Nat} {a : Addr} (ha : as[v]? = some a) (xs : List Nat) : SrcAt (upd H a (.lst (nV xs))) as (X.set v xs) := by
  refine ⟨h.nd, by rw [List.length_set]; exact h.len, fun u b ys h1 h2 => ?_⟩
  rw [List.getElem?_set] at h2
  by_cases z : v = u
  · subst z
    rw [if_pos rfl] at h2
    split at h2
    · obtain rfl := Option.some.inj h2
      rw [ha] at h1
      obtain rfl := Option.some.inj h1
      exact upd_same
    · exact nomatch h2
  · rw [if_neg z] at h2
    have ne : b ≠ a := fun e => z (by
      subst e
      have h3 := (List.getElem?_eq_some_iff.mp ha)
      have h4 := (List.getElem?_eq_some_iff.mp h1)
      obtain ⟨l1, g1⟩ := h3
      obtain ⟨l2, g2⟩ := h4
      exact (List.getElem_inj h.nd).mp (g1.trans g2.symm))
    rw [upd_ne ne]
    exact h.at_ u b ys h1 h2
section
variable {P : Program} {w : World} {K : PySem.W.Frag} {mg : Str → Option Value} {base : Heap}
/-! ### _sources -/
def spSources : Sp := fun vs H Q _ => ∃ (g : Addr) (us : List V) (G : Gr), vs = [.ref g] ∧ H g = some (.lst us) ∧ GrAt H us G ∧ WfG G ∧ FewG G ∧
  ∀ H' S as, Same H H' → H' S = some (.lst (as.map V.ref)) → SrcAt H' as (srcs G G.length) → (∀ a ∈ as, H a = none) → H S = none → Q (.ref S) H'
abbrev srcNm : List Str := ["graph", "sources", "_", "node", "edges", "behind"]
theorem ok_sources {f : Addr} {fd : FuncData} {k : Nat} (F : Fun K "_sources" "_sources" s_sources f fd) (m1 : mg "enumerate" = none) : FnOk P w K mg base CX0 (k + 1) f fd ["graph"] spSources := by
  refine F.ok sc_sources (fun vs H Q E h => ?_) (fun cdv A outer s H vs Q E hr h => ?_)
  · obtain ⟨g, us, G, rfl, _⟩ := h; rfl
  · obtain ⟨g, us, G, rfl, hg, hG, W, N, q⟩ := h
    refine ⟨_, pss_cons (ps_setLc (i := 1) (own := [("_", 2)]) (g := gName 2) (tt := tYes) rfl sc_sources.nd rfl rfl (sw_true rfl rfl rfl (by decide +kernel)) (pi_list (pv 0)) (blkOk_by (N := srcNm) (sc := defScope s_sources) (by decide +kernel))
        (fun _ _ _ _ _ => pg_name (i := 2) sc_sources.nd rfl (Or.inl rfl)) (fun _ _ _ _ _ => pts_nil) (fun _ _ _ _ _ => pe_lst pa_nil))
      (pss_cons (ps_for PassesOwn.never rfl (pi_enum (by rfl) m1 (pa_cons (pv 0) pa_nil)) (pg_tup rfl (pgs_cons (pg_name (i := 3) sc_sources.nd rfl (.inl rfl)) (pgs_cons (pg_name (i := 4) sc_sources.nd rfl (.inl rfl)) pgs_nil)))
        (pss_one (ps_for PassesOwn.never rfl (pi_list (pv 4)) (pg_tup rfl (pgs_cons (pg_name (i := 2) sc_sources.nd rfl (.inl rfl)) (pgs_cons (pg_name (i := 2) sc_sources.nd rfl (.inl rfl)) (pgs_cons (pg_name (i := 5) sc_sources.nd rfl (.inl rfl)) pgs_nil))))
          (pss_one (ps_expr (pe_bm PySem.F.plainAttrs_list PySem.F.slot_list_append PySem.F.type_list_append mt_append (pe_ix ix_list (pv 1) (pv 5) (fun _ _ => rfl)) (pa_cons (pv 3) pa_nil)))))))
      (pss_one (ps_ret (pv 1)))), ?_⟩
    have big : 10000000 ≤ sizeLine := by rw [sizeLine_eq]; decide
    have lG : us.length = G.length := Paired.length hG
    have nN := N.nodes
    refine ⟨.ref g, rfl, g, rfl, ⟨_, .of hg⟩, fun S nS => ?_⟩
    refine lc_list (xs := us) (fun i H' => Same H H' ∧ ∃ as, H' S = some (.lst (as.map V.ref)) ∧ as.length = i ∧ as.Nodup ∧ S ∉ as ∧ ∀ a ∈ as, H a = none ∧ H' a = some (.lst [])) ⟨same_new nS, [], upd_same, rfl, List.nodup_nil, (fun z => nomatch z), (fun a ha => nomatch ha)⟩ (fun i H' _ h => .of (h.1 _ _ hg)) (fun i x H' hx h => ?_) (fun H2 h => ?_)
    · obtain ⟨e, as, hS, la, nd, nSa, hf⟩ := h
      have hi := (List.getElem?_eq_some_iff.mp hx).1
      refine ⟨rfl, by show 0 ≤ sizeLine; omega, fun p np => ?_⟩
      have ep := same_new (o := .lst []) np
      have npH := freeS e np
      have npS : p ≠ S := fun z => by rw [z, hS] at np; exact nomatch np
      refine ⟨_, ep _ _ hS, by rw [List.length_map]; omega, fun b o z => ?_, as ++ [p], ?_, by rw [List.length_append, la]; rfl, ?_, ?_, fun a ha => ?_⟩
      · rw [upd_ne (ne_of_none z nS)]
        exact ep _ _ (e _ _ z)
      · rw [upd_same, List.map_append]; rfl
      · rw [List.nodup_append]
        refine ⟨nd, List.nodup_cons.mpr ⟨(fun z => nomatch z), List.nodup_nil⟩, fun a ha b hb => ?_⟩
        obtain rfl := List.mem_singleton.mp hb
        intro z
        have := (hf a ha).2
        rw [z, np] at this
        exact nomatch this
      · intro z
        rcases List.mem_append.mp z with z | z
        · exact nSa z
        · exact npS (List.mem_singleton.mp z).symm
      · rcases List.mem_append.mp ha with ha | ha
        · obtain ⟨h1, h2⟩ := hf a ha
          refine ⟨h1, ?_⟩
          rw [upd_ne (fun z => nSa (by rw [← z]; exact ha))]
          exact ep _ _ h2
        · obtain rfl := List.mem_singleton.mp ha
          refine ⟨npH, ?_⟩
          rw [upd_ne npS]
          exact upd_same
    obtain ⟨e2, as, hS2, la, nd, nSa, hf⟩ := h
    have hgr : ∀ {H'}, (∀ b o, b ∉ as → b ≠ S → H b = some o → H' b = some o) → Same H H' := fun h b o z => h b o (fun c => by rw [(hf b c).1] at z; exact nomatch z) (ne_of_none z nS) z
    have s0 : SrcAt H2 as (srcs G 0) := ⟨nd, by rw [srcs_len, la, lG], fun v a xs h1 h2 => by
      have h3 : (List.replicate G.length ([] : List Nat))[v]? = some xs := h2
      have := List.eq_of_mem_replicate (List.mem_of_getElem? h3)
      subst this
      exact (hf a (List.mem_of_getElem? h1)).2⟩
    refine ⟨.ref g, rfl, g, us, rfl, .of (e2 _ _ hg), ?_⟩
    refine for_it (walk_enum (xs := us)) (fun i σ H' => ∃ v2 v3 v4 v5, σ = [some (.ref g), some (.ref S), v2, v3, v4, v5] ∧ Same H H' ∧ H' S = some (.lst (as.map V.ref)) ∧ SrcAt H' as (srcs G i))
      ⟨_, _, _, _, rfl, e2, hS2, s0⟩ (fun i σ H' _ h => ?_) (fun i y σ H' H'' hil h hY => ?_) (fun σ H' h => ?_)
    · obtain ⟨_, _, _, _, _, e, _⟩ := h
      exact .of (e _ _ hg)
    · obtain ⟨v2, v3, v4, v5, rfl, e3, hS3, h3⟩ := h
      obtain ⟨T, x1, x2, rfl, nT, rfl, f1, f2⟩ := hY
      dsimp only at f1 f2
      cases f1
      obtain ⟨es, hes, ge, ps, rfl, hge, hps⟩ := paired_get hG f2
      have hil2 := (List.getElem?_eq_some_iff.mp hes).1
      have eT := same_new (o := .tup [V.int (i : Nat), .ref ge]) nT
      have hT2 : (upd H' T (.tup [V.int (i : Nat), .ref ge])) T = some (.tup [V.int (i : Nat), .ref ge]) := upd_same
      have e4 := e3.trans eT
      have hS4 := eT _ _ hS3
      have h4 := h3.keep (fun a _ o z => eT _ _ z)
      refine ⟨T, _, rfl, .of hT2, rfl, _, _, rfl, _, _, rfl, rfl, ?_⟩
      generalize upd H' T (.tup [V.int (i : Nat), .ref ge]) = H4 at e4 hS4 h4 ⊢
      rw [srcs_succ hes]
      have few := srcs_few W N i (by omega)
      have lS := srcs_len G i
      generalize srcs G i = X at h4 few lS ⊢
      have lps := Paired.length hps
      have beh : ∀ e ∈ es, e.2.2 < X.length := fun e he => by rw [lS]; exact W.behind es (List.mem_of_getElem? hes) e he
      have fewE := N.edges es (List.mem_of_getElem? hes)
      refine ⟨.ref ge, rfl, ge, rfl, ⟨_, .of (e4 _ _ hge)⟩, ?_⟩
      refine for_list (xs := ps) (fun j σ H' => ∃ v2 v5, σ = [some (.ref g), some (.ref S), v2, some (.int (i : Nat)), some (.ref ge), v5] ∧ Same H H' ∧ H' S = some (.lst (as.map V.ref)) ∧ SrcAt H' as ((es.take j).foldl (srcE i) X))
        ⟨_, _, rfl, e4, hS4, h4⟩ (fun j σ H' _ h => ?_) (fun j y σ H5 hy h => ?_) (fun σ H' h => ?_)
      · obtain ⟨_, _, _, e, _⟩ := h
        exact .of (e _ _ hge)
      · obtain ⟨v2, v5, rfl, e5, hS5, h5⟩ := h
        obtain ⟨e, hej, t, rfl, ht⟩ := paired_get hps hy
        have hem := List.mem_of_getElem? hej
        have hjl := (List.getElem?_eq_some_iff.mp hej).1
        rw [foldl_take _ _ hej]
        have lZ := srcEs_len i (es.take j) X
        have fZ := srcEs_sum (u := i) (n := 8 * i) (es := es.take j) (S := X) (fun e he => beh e (List.mem_of_mem_take he)) few e.2.2
        rw [List.length_take] at fZ
        generalize (es.take j).foldl (srcE i) X = Z at h5 lZ fZ ⊢
        have hb : e.2.2 < Z.length := by rw [lZ]; exact beh e hem
        have hz : Z[e.2.2]? = some Z[e.2.2] := List.getElem?_eq_getElem hb
        have hgd : Z.getD e.2.2 [] = Z[e.2.2] := by rw [List.getD_eq_getElem?_getD, hz]; rfl
        rw [hgd] at fZ
        have ha : as[e.2.2]? = some (as[e.2.2]'(by rw [h5.len]; exact hb)) := List.getElem?_eq_getElem _
        generalize as[e.2.2]'(by rw [h5.len]; exact hb) = a at ha
        have hax := h5.at_ _ _ _ ha hz
        have nSa' : a ≠ S := fun z => nSa (by rw [← z]; exact List.mem_of_getElem? ha)
        refine ⟨t, _, rfl, .of (e5 _ _ ht), rfl, _, _, rfl, _, _, rfl, _, _, rfl, rfl, ?_⟩
        refine ⟨.ref S, rfl, .int (e.2.2 : Nat), rfl, S, _, (e.2.2 : Nat), .ref a, rfl, rfl, .of hS5, atI_nat (by rw [List.getElem?_map, ha]; rfl), .inl ⟨rfl, _, .of hax⟩, .int (i : Nat), rfl, a, _, _, rfl, rfl, hax, by rw [List.length_map]; omega, ?_⟩
        have hnew : nV Z[e.2.2] ++ [V.int (i : Nat)] = nV (Z[e.2.2] ++ [i]) := by unfold nV; rw [List.map_append]; rfl
        rw [hnew]
        have hse : srcE i Z e = Z.set e.2.2 (Z[e.2.2] ++ [i]) := by unfold srcE; rw [hgd]
        rw [hse]
        refine ⟨_, _, rfl, fun b o z => ?_, ?_, h5.put ha _⟩
        · rw [upd_ne (fun c => by rw [c, (hf a (List.mem_of_getElem? ha)).1] at z; exact nomatch z)]
          exact e5 _ _ z
        · rw [upd_ne nSa'.symm]; exact hS5
      · obtain ⟨v2, v5, rfl, e5, hS5, h5⟩ := h
        rw [lps, List.take_length] at h5
        exact ⟨_, _, _, _, rfl, e5, hS5, h5⟩
    · obtain ⟨v2, v3, v4, v5, rfl, e3, hS3, h3⟩ := h
      rw [lG] at h3
      exact ⟨.ref S, rfl, q H' S as e3 hS3 h3 (fun a ha => (hf a ha).1) nS⟩
end
end Sg
set_option Elab.async false
set_option linter.all false
set_option maxRecDepth 100000
set_option maxHeartbeats 4000000
namespace Sg
open PySem PySem.Spec PyProof.Rows L2 StX
/-! ## how far each node is from a goal, layer by layer -/
theorem snV_app (L M : SnL) (v : Nat) : snV (L ++ M) v = match snV L v with | some d => some d | none => snV M v := by
  unfold snV
  rw [List.find?_append]
  cases List.find? (fun x : Nat × Nat => decide (x.1 = v)) L with
  | some x => rfl
  | none => rfl
theorem snV_map {F : List Nat} {c v : Nat} : snV (F.map fun x => (x, c)) v = if v ∈ F then some c else none := by
  induction F with
  | nil => rfl
  | cons x F ih =>
    by_cases e : x = v
    · have b : snV ((x :: F).map fun x => (x, c)) v = some c := by simp [snV, List.find?_cons, e]
      rw [b, if_pos (by rw [e]; exact List.mem_cons_self)]
    · have b : snV ((x :: F).map fun x => (x, c)) v = snV (F.map fun x => (x, c)) v := by simp [snV, List.find?_cons, e]
      rw [b, ih]
      have : v ∈ x :: F ↔ v ∈ F := ⟨fun h => (List.mem_cons.mp h).resolve_left fun z => e z.symm, List.mem_cons_of_mem _⟩
      simp only [this]
/-- the table and the newest layer behind so many rounds -/
structure Lay1 (G : Gr) (goal c : Nat) (L : SnL) (Y : List Nat) : Prop where
  nd : (L.map (·.1)).Nodup
  inN : ∀ x ∈ L, x.1 < G.length
  at_ : ∀ v d, snV L v = some d ↔ Nrm G goal v d ∧ d ≤ c
  lay : ∀ v, v ∈ Y ↔ Nrm G goal v c
/-- while a round goes on: found ones, and which nodes were looked at -/
structure Mid1 (G : Gr) (goal c : Nat) (L0 : SnL) (F : List Nat) (D : List Nat) : Prop where
  nd : ((L0 ++ F.map fun x => (x, c + 1)).map (·.1)).Nodup
  inN : ∀ x ∈ F, x < G.length
  nrm : ∀ x ∈ F, Nrm G goal x (c + 1)
  cov : ∀ x ∈ D, ∃ d, snV (L0 ++ F.map fun x => (x, c + 1)) x = some d
theorem lay_start {G : Gr} {goal : Nat} (hg : goal < G.length) : Lay1 G goal 0 [(goal, 0)] [goal] := by
  refine ⟨List.nodup_cons.mpr ⟨(fun z => nomatch z), List.nodup_nil⟩, fun x hx => by rw [List.mem_singleton.mp hx]; exact hg, fun v d => ?_, fun v => ?_⟩
  · have e : snV [(goal, 0)] v = if v = goal then some 0 else none := by
      by_cases z : goal = v
      · simp [snV, List.find?_cons, z]
      · have : ¬ v = goal := fun c => z c.symm
        simp [snV, List.find?_cons, z, this]
    rw [e]
    constructor
    · intro h
      split at h
      · rename_i z
        obtain rfl := Option.some.inj h
        exact ⟨nrm_zero.mpr z, Nat.le_refl _⟩
      · exact nomatch h
    · rintro ⟨h, h2⟩
      obtain rfl : d = 0 := by omega
      rw [if_pos (nrm_zero.mp h)]
  · rw [List.mem_singleton]
    exact nrm_zero.symm
theorem Lay1.mid {G : Gr} {goal c : Nat} {L : SnL} {Y : List Nat} (h : Lay1 G goal c L Y) : Mid1 G goal c L [] [] := ⟨by rw [List.map_nil, List.append_nil]; exact h.nd, (fun x hx => nomatch hx), (fun x hx => nomatch hx), fun x hx => nomatch hx⟩
theorem Mid1.old {G : Gr} {goal c : Nat} {L0 : SnL} {F D : List Nat} (h : Mid1 G goal c L0 F D) {x d : Nat} (hx : snV (L0 ++ F.map fun x => (x, c + 1)) x = some d) : Mid1 G goal c L0 F (D ++ [x]) := ⟨h.nd, h.inN, h.nrm, fun y hy => by
  rcases List.mem_append.mp hy with hy | hy
  · exact h.cov y hy
  · rw [List.mem_singleton.mp hy]; exact ⟨d, hx⟩⟩
theorem Mid1.new {G : Gr} {goal c : Nat} {L0 : SnL} {Y F D : List Nat} (h0 : Lay1 G goal c L0 Y) (h : Mid1 G goal c L0 F D) {x n : Nat} (hx : snV (L0 ++ F.map fun x => (x, c + 1)) x = none) (hn : n ∈ Y) (he : ∃ es e, G[x]? = some es ∧ e ∈ es ∧ e.2.2 = n) : Mid1 G goal c L0 (F ++ [x]) (D ++ [x]) := by
  obtain ⟨es, e, h1, h2, rfl⟩ := he
  have hl := (List.getElem?_eq_some_iff.mp h1).1
  have hnone : snV L0 x = none := by
    rw [snV_app] at hx
    cases z : snV L0 x with
    | none => rfl
    | some d => rw [z] at hx; exact nomatch hx
  have hN : Nrm G goal x (c + 1) := nrm_succ.mpr ⟨⟨es, e, h1, h2, (h0.lay _).mp hn⟩, fun d' hd k => by
    have := (h0.at_ x d').mpr ⟨k, hd⟩
    rw [hnone] at this
    exact nomatch this⟩
  have ef : (L0 ++ (F ++ [x]).map fun x => (x, c + 1)) = (L0 ++ F.map fun x => (x, c + 1)) ++ [(x, c + 1)] := by rw [List.map_append, ← List.append_assoc]; rfl
  refine ⟨?_, fun y hy => ?_, fun y hy => ?_, fun y hy => ?_⟩
  · rw [ef]
    exact nd_snoc h.nd (snV_none hx)
  · rcases List.mem_append.mp hy with hy | hy
    · exact h.inN y hy
    · rw [List.mem_singleton.mp hy]; exact hl
  · rcases List.mem_append.mp hy with hy | hy
    · exact h.nrm y hy
    · rw [List.mem_singleton.mp hy]; exact hN
  · rw [ef, snV_app]
    rcases List.mem_append.mp hy with hy | hy
    · obtain ⟨d, hd⟩ := h.cov y hy
      rw [hd]; exact ⟨d, rfl⟩
    · rw [List.mem_singleton.mp hy, hx]
      exact ⟨c + 1, by simp [snV, List.find?_cons]⟩
theorem Mid1.done {G : Gr} {goal c : Nat} {L0 : SnL} {Y F : List Nat} {src : Nat → List Nat} (h0 : Lay1 G goal c L0 Y) (h : Mid1 G goal c L0 F (Y.flatMap src)) (hs : ∀ n ∈ Y, ∀ x es e, G[x]? = some es → e ∈ es → e.2.2 = n → x ∈ src n) : Lay1 G goal (c + 1) (L0 ++ F.map fun x => (x, c + 1)) F := by
  have hat : ∀ v d, snV (L0 ++ F.map fun x => (x, c + 1)) v = some d ↔ Nrm G goal v d ∧ d ≤ c + 1 := fun v d => by
    constructor
    · intro k
      rw [snV_app] at k
      cases z : snV L0 v with
      | some d' =>
        rw [z] at k
        obtain rfl := Option.some.inj k
        have := (h0.at_ v d').mp z
        exact ⟨this.1, by omega⟩
      | none =>
        rw [z] at k
        have k : snV (F.map fun x => (x, c + 1)) v = some d := k
        rw [snV_map] at k
        split at k
        · rename_i hv
          obtain rfl := Option.some.inj k
          exact ⟨h.nrm v hv, Nat.le_refl _⟩
        · exact nomatch k
    · rintro ⟨k, hd⟩
      by_cases z : d ≤ c
      · rw [snV_app, (h0.at_ v d).mpr ⟨k, z⟩]
      · obtain rfl : d = c + 1 := by omega
        obtain ⟨⟨es, e, h1, h2, h3⟩, h4⟩ := nrm_succ.mp k
        have hY := (h0.lay _).mpr h3
        obtain ⟨d', hd'⟩ := h.cov v (List.mem_flatMap.mpr ⟨_, hY, hs _ hY v es e h1 h2 rfl⟩)
        rw [hd']
        rw [snV_app] at hd'
        cases y : snV L0 v with
        | some d2 =>
          have := (h0.at_ v d2).mp y
          exact absurd this.1 (h4 d2 this.2)
        | none =>
          rw [y] at hd'
          have hd' : snV (F.map fun x => (x, c + 1)) v = some d' := hd'
          rw [snV_map] at hd'
          split at hd'
          · obtain rfl := Option.some.inj hd'; rfl
          · exact nomatch hd'
  refine ⟨h.nd, fun x hx => ?_, hat, fun v => ⟨fun hv => h.nrm v hv, fun hv => ?_⟩⟩
  · rcases List.mem_append.mp hx with hx | hx
    · exact h0.inN x hx
    · obtain ⟨y, hy, rfl⟩ := List.mem_map.mp hx
      exact h.inN y hy
  · have k := snV_some ((hat v (c + 1)).mpr ⟨hv, Nat.le_refl _⟩)
    rcases List.mem_append.mp k with k | k
    · have hn : snV L0 v = none := by
        cases z : snV L0 v with
        | none => rfl
        | some d =>
          have := (h0.at_ v d).mp z
          have := hv.uniq this.1
          omega
      exact absurd rfl (snV_none hn _ k)
    · obtain ⟨y, hy, e⟩ := List.mem_map.mp k
      rw [← (Prod.mk.inj e).1]; exact hy
theorem sn_len {L : SnL} {n : Nat} (nd : (L.map (·.1)).Nodup) (inN : ∀ x ∈ L, x.1 < n) : L.length ≤ n := by
  have := nodup_len_le (L.map (·.1)) (List.range n) nd fun v hv => by
    obtain ⟨x, hx, rfl⟩ := List.mem_map.mp hv
    exact List.mem_range.mpr (inN x hx)
  rw [List.length_map, List.length_range] at this
  exact this
def StepsOk (G : Gr) (goal m : Nat) (L : SnL) : Prop := ∀ v d, snV L v = some d ↔ Nrm G goal v d ∧ d ≤ m
section
variable {P : Program} {w : World} {K : PySem.W.Frag} {mg : Str → Option Value} {base : Heap}
/-! ### _steps_to -/
def spStepsTo : Sp := fun vs H Q _ => ∃ (S : Addr) (goal m : Nat) (as : List Addr) (G : Gr), vs = [.ref S, .int (goal : Nat), .int (m : Nat)] ∧ H S = some (.lst (as.map V.ref)) ∧ SrcAt H as (srcs G G.length) ∧ WfG G ∧ FewG G ∧ goal < G.length ∧ m ≤ G.length ∧
  ∀ H' D L, Same H H' → H' D = some (.dK (snD L)) → StepsOk G goal m L → Q (.ref D) H'
theorem ok_steps_to {f : Addr} {fd : FuncData} {k : Nat} (F : Fun K "_steps_to" "_steps_to" s_steps_to f fd) (m1 : mg "range" = none) (m2 : mg "list" = none) : FnOk P w K mg base CX0 (k + 1) f fd ["sources", "goal", "most"] spStepsTo := by
  refine F.ok sc_steps_to (fun vs H Q E h => ?_) (fun cdv A outer s H vs Q E hr h => ?_)
  · obtain ⟨S, goal, m, as, G, rfl, _⟩ := h; rfl
  · obtain ⟨S, goal, m, as, G, rfl, hS, hA, W, N, hgoal, hm, q⟩ := h
    have hu2 := hu_of hr
    refine ⟨_, pss_cons (ps_set (i := 3) sc_steps_to.nd rfl (.inl rfl) (pe_disp (pps_cons (pv 1) pe_int pps_nil) rfl rfl (fun z => nomatch z) (by decide)))
      (pss_cons (ps_set (i := 4) sc_steps_to.nd rfl (.inl rfl) (pe_lst (pa_cons (pv 1) pa_nil)))
      (pss_cons (ps_for PassesOwn.never rfl (pi_range2 (by rfl) m1 (pa_cons pe_int (pa_cons (pe_op op_add (pv 2) pe_int) pa_nil))) (pg_name (i := 5) sc_steps_to.nd rfl (.inl rfl))
        (pss_cons (ps_set (i := 6) sc_steps_to.nd rfl (.inl rfl) (pe_lst pa_nil))
        (pss_cons (ps_for PassesOwn.never rfl (pi_list (pv 4)) (pg_name (i := 7) sc_steps_to.nd rfl (.inl rfl))
          (pss_one (ps_for PassesOwn.never rfl (pi_list (pe_ix ix_list (pv 0) (pv 7) (fun _ _ => rfl))) (pg_name (i := 8) sc_steps_to.nd rfl (.inl rfl))
            (pss_one (ps_if (pt_cmp (pc_dnotin hu2 (pv 8) (pv 3)))
              (pss_cons (ps_dput hu2 (pv 3) (pv 8) (pv 5) rfl)
              (pss_one (ps_expr (pe_bm PySem.F.plainAttrs_list PySem.F.slot_list_append PySem.F.type_list_append mt_append (pv 6) (pa_cons (pv 8) pa_nil))))) pss_nil)))))
        (pss_one (ps_set (i := 4) sc_steps_to.nd rfl (.inl rfl) (pe_callTy call_list_of (by rfl) m2 (by decide +kernel) (pa_cons (pv 6) pa_nil)))))))
      (pss_one (ps_ret (pv 3))))), ?_⟩
    have big : 10000000 ≤ sizeLine := by rw [sizeLine_eq]; decide
    have nN := N.nodes
    intro D nD
    have e1 := same_new (o := .dK []) nD
    have hD1 : (upd H D (.dK [])) D = some (.dK []) := upd_same
    generalize upd H D (.dK []) = H1 at e1 hD1 ⊢
    refine ⟨.int (goal : Nat), rfl, hD1, [(Sum.inl (goal : Int), .int 0)], rfl, by show 1 ≤ 15; decide, ?_⟩
    have e2 : Same H (upd H1 D (.dK (snD [(goal, 0)]))) := fun b o z => by rw [upd_ne (ne_of_none z nD)]; exact e1 _ _ z
    have hD2 : (upd H1 D (.dK (snD [(goal, 0)]))) D = some (.dK (snD [(goal, 0)])) := upd_same
    rw [show mergeK [] [((Sum.inl (goal : Int) : L2.Key), V.int 0)] = snD [(goal, 0)] from rfl]
    generalize upd H1 D (.dK (snD [(goal, 0)])) = H2 at e2 hD2 ⊢
    refine ⟨.int (goal : Nat), rfl, by show 1 ≤ sizeLine; omega, fun Yl nY => ?_⟩
    have e3 := same_new (o := .lst [V.int (goal : Nat)]) nY
    have hY3 : (upd H2 Yl (.lst [V.int (goal : Nat)])) Yl = some (.lst (nV [goal])) := upd_same
    have hD3 := e3 _ _ hD2
    have e13 := e2.trans e3
    generalize upd H2 Yl (.lst [V.int (goal : Nat)]) = H3 at e3 hY3 hD3 e13 ⊢
    refine ⟨.int (m : Nat), rfl, _, _, rfl, rfl, 1, _, rfl, ⟨by omega, by omega, by omega, by omega⟩, ?_⟩
    have em : ((m : Int) + 1 - 1).toNat = m := by omega
    refine for_range (lo := 1) (n := ((m : Int) + 1 - 1).toNat) (fun i σ H' => ∃ Yl v5 v6 v7 v8 L Y, σ = [some (.ref S), some (.int (goal : Nat)), some (.int (m : Nat)), some (.ref D), some (.ref Yl), v5, v6, v7, v8] ∧ Same H H' ∧ H' D = some (.dK (snD L)) ∧ H' Yl = some (.lst (nV Y)) ∧ Lay1 G goal i L Y)
      ⟨_, _, _, _, _, _, _, rfl, e13, hD3, hY3, lay_start hgoal⟩ ?_ ?_
    rotate_left
    · rintro σ H4 ⟨Yl, v5, v6, v7, v8, L, Y, rfl, e4, hD4, _, hl⟩
      rw [em] at hl
      exact ⟨.ref D, rfl, q H4 D L e4 hD4 hl.at_⟩
    rintro i σ H4 hi ⟨Yl, v5, v6, v7, v8, L, Y, rfl, e4, hD4, hY4, hl⟩
    rw [em] at hi
    have e1i : (1 : Int) + (i : Nat) = ((i + 1 : Nat) : Int) := by omega
    rw [e1i]
    refine ⟨by show 0 ≤ sizeLine; omega, fun Fl nF => ?_⟩
    have nFH := freeS e4 nF
    have e5 := e4.trans (same_new (o := .lst []) nF)
    have hF5 : (upd H4 Fl (.lst [])) Fl = some (.lst (nV [])) := upd_same
    have hD5 := same_new (o := .lst []) nF _ _ hD4
    have hY5 := same_new (o := .lst []) nF _ _ hY4
    have nFD : Fl ≠ D := fun z => by rw [z, hD4] at nF; exact nomatch nF
    have nFY : Fl ≠ Yl := fun z => by rw [z, hY4] at nF; exact nomatch nF
    have nYD : Yl ≠ D := fun z => by rw [z, hD4] at hY4; exact nomatch hY4
    generalize upd H4 Fl (.lst []) = H5 at e5 hF5 hD5 hY5 ⊢
    refine ⟨.ref Yl, rfl, Yl, rfl, ⟨_, .of hY5⟩, ?_⟩
    have lY : Y.length = (nV Y).length := (List.length_map _).symm
    -- one round: what was looked at among the sources of the layer
    refine for_list (xs := nV Y) (fun y σ H' => ∃ v7 v8 F, σ = [some (.ref S), some (.int (goal : Nat)), some (.int (m : Nat)), some (.ref D), some (.ref Yl), some (.int ((i + 1 : Nat) : Int)), some (.ref Fl), v7, v8] ∧ Same H H' ∧ H' Yl = some (.lst (nV Y)) ∧
        H' D = some (.dK (snD (L ++ F.map fun x => (x, i + 1)))) ∧ H' Fl = some (.lst (nV F)) ∧ Mid1 G goal i L F ((Y.take y).flatMap fun n => (srcs G G.length).getD n []))
      ⟨_, _, [], rfl, e5, hY5, by rw [List.map_nil, List.append_nil]; exact hD5, hF5, hl.mid⟩ (fun y σ H' _ h => ?_) (fun y v σ H6 hv h => ?_) (fun σ H6 h => ?_)
    · obtain ⟨_, _, _, _, _, h, _⟩ := h
      exact .of h
    · obtain ⟨v7, v8, F, rfl, e6, hY6, hD6, hF6, mid⟩ := h
      rw [List.getElem?_map] at hv
      obtain ⟨n, hn, rfl⟩ := Option.map_eq_some_iff.mp hv
      have hnY := List.mem_of_getElem? hn
      have htk : (Y.take (y + 1)).flatMap (fun n => (srcs G G.length).getD n []) = ((Y.take y).flatMap fun n => (srcs G G.length).getD n []) ++ (srcs G G.length).getD n [] := by
        rw [List.take_add_one, hn, List.flatMap_append]; simp
      rw [htk]
      generalize ((Y.take y).flatMap fun n => (srcs G G.length).getD n []) = D0 at mid ⊢
      have hnl : n < G.length := by
        obtain ⟨⟨ls, hw, _⟩, _⟩ := (hl.lay n).mp hnY
        cases hw with
        | nil => exact hgoal
        | cons a _ _ => exact (List.getElem?_eq_some_iff.mp a).1
      have hX : (srcs G G.length)[n]? = some ((srcs G G.length)[n]'(by rw [srcs_len]; exact hnl)) := List.getElem?_eq_getElem _
      have ha : as[n]? = some (as[n]'(by rw [hA.len, srcs_len]; exact hnl)) := List.getElem?_eq_getElem _
      have hgd : (srcs G G.length).getD n [] = (srcs G G.length)[n]'(by rw [srcs_len]; exact hnl) := by rw [List.getD_eq_getElem?_getD, hX]; rfl
      have hmem := srcs_mem W G.length (Nat.le_refl _) n
      rw [hgd] at hmem ⊢
      generalize (srcs G G.length)[n]'(by rw [srcs_len]; exact hnl) = xs at hX hmem ⊢
      generalize as[n]'(by rw [hA.len, srcs_len]; exact hnl) = a at ha
      have haH := hA.at_ _ _ _ ha hX
      refine ⟨.ref S, rfl, .int (n : Nat), rfl, S, _, (n : Nat), .ref a, rfl, rfl, .of (e6 _ _ hS), atI_nat (by rw [List.getElem?_map, ha]; rfl), a, rfl, ⟨_, .of (e6 _ _ haH)⟩, ?_⟩
      have lxs : xs.length = (nV xs).length := (List.length_map _).symm
      refine for_list (xs := nV xs) (fun j σ H' => ∃ v8 F, σ = [some (.ref S), some (.int (goal : Nat)), some (.int (m : Nat)), some (.ref D), some (.ref Yl), some (.int ((i + 1 : Nat) : Int)), some (.ref Fl), some (.int (n : Nat)), v8] ∧ Same H H' ∧ H' Yl = some (.lst (nV Y)) ∧
          H' D = some (.dK (snD (L ++ F.map fun x => (x, i + 1)))) ∧ H' Fl = some (.lst (nV F)) ∧ Mid1 G goal i L F (D0 ++ xs.take j))
        ⟨_, F, rfl, e6, hY6, hD6, hF6, by rw [List.take_zero, List.append_nil]; exact mid⟩ (fun j σ H' _ h => ?_) (fun j v σ H7 hv h => ?_) (fun σ H7 h => ?_)
      · obtain ⟨_, _, _, e, _⟩ := h
        exact .of (e _ _ haH)
      · obtain ⟨v8, F, rfl, e7, hY7, hD7, hF7, mid⟩ := h
        rw [List.getElem?_map] at hv
        obtain ⟨x, hx, rfl⟩ := Option.map_eq_some_iff.mp hv
        have hxm := List.mem_of_getElem? hx
        rw [show xs.take (j + 1) = xs.take j ++ [x] by rw [List.take_add_one, hx]; rfl, ← List.append_assoc]
        generalize D0 ++ xs.take j = D1 at mid ⊢
        have inN : ∀ z ∈ L ++ F.map fun x => (x, i + 1), z.1 < G.length := fun z hz => by
          rcases List.mem_append.mp hz with hz | hz
          · exact hl.inN z hz
          · obtain ⟨u, hu, rfl⟩ := List.mem_map.mp hz
            exact mid.inN u hu
        have lL := sn_len mid.nd inN
        have lsn : (snD (L ++ F.map fun x => (x, i + 1))).length = (L ++ F.map fun x => (x, i + 1)).length := List.length_map _
        have lF : F.length ≤ (L ++ F.map fun x => (x, i + 1)).length := by rw [List.length_append, List.length_map]; omega
        have hget : DGet H7 D (.int (x : Nat)) ((snV (L ++ F.map fun x => (x, i + 1)) x).map fun s => V.int (s : Nat)) := by
          rw [← snD_at]
          exact DGet.k (k := Sum.inl ((x : Nat) : Int)) hD7
        refine ⟨.int (x : Nat), rfl, .ref D, rfl, D, _, rfl, hget, _, rfl, ?_⟩
        cases hv : snV (L ++ F.map fun x => (x, i + 1)) x with
        | some d => exact iteF ⟨_, F, rfl, e7, hY7, hD7, hF7, mid.old hv⟩
        | none =>
          refine iteT ⟨.int ((i + 1 : Nat) : Int), rfl, .ref D, rfl, .int (x : Nat), rfl, D, _, rfl, DPut.k (k := Sum.inl ((x : Nat) : Int)) hD7 (by omega), ?_⟩
          rw [snD_put hv]
          have e8 : Same H (upd H7 D (.dK (snD ((L ++ F.map fun x => (x, i + 1)) ++ [(x, i + 1)])))) := fun b o z => by rw [upd_ne (ne_of_none z nD)]; exact e7 _ _ z
          have hD8 : (upd H7 D (.dK (snD ((L ++ F.map fun x => (x, i + 1)) ++ [(x, i + 1)])))) D = some (.dK (snD (L ++ (F ++ [x]).map fun x => (x, i + 1)))) := by rw [upd_same, List.map_append, ← List.append_assoc]; rfl
          have hY8 : (upd H7 D (.dK (snD ((L ++ F.map fun x => (x, i + 1)) ++ [(x, i + 1)])))) Yl = some (.lst (nV Y)) := by rw [upd_ne nYD]; exact hY7
          have hF8 : (upd H7 D (.dK (snD ((L ++ F.map fun x => (x, i + 1)) ++ [(x, i + 1)])))) Fl = some (.lst (nV F)) := by rw [upd_ne nFD]; exact hF7
          generalize upd H7 D (.dK (snD ((L ++ F.map fun x => (x, i + 1)) ++ [(x, i + 1)]))) = H8 at e8 hD8 hY8 hF8 ⊢
          refine ⟨.ref Fl, rfl, .inl ⟨rfl, _, .of hF8⟩, .int (x : Nat), rfl, Fl, _, _, rfl, rfl, hF8, by rw [List.length_map]; omega, ?_⟩
          rw [show nV F ++ [V.int (x : Nat)] = nV (F ++ [x]) by unfold nV; rw [List.map_append]; rfl]
          have hxe := (hmem x).mp hxm
          exact ⟨_, F ++ [x], rfl, fun b o z => by rw [upd_ne (ne_of_none z nFH)]; exact e8 _ _ z, by rw [upd_ne nFY.symm]; exact hY8, by rw [upd_ne nFD.symm]; exact hD8, upd_same, mid.new hl hv hnY hxe.2⟩
      · obtain ⟨v8, F, rfl, e7, hY7, hD7, hF7, mid⟩ := h
        rw [← lxs, List.take_length] at mid
        exact ⟨_, _, F, rfl, e7, hY7, hD7, hF7, mid⟩
    · obtain ⟨v7, v8, F, rfl, e6, hY6, hD6, hF6, mid⟩ := h
      rw [← lY, List.take_length] at mid
      have fin := mid.done hl (src := fun n => (srcs G G.length).getD n []) fun n hn x es e h1 h2 h3 => (srcs_mem W G.length (Nat.le_refl _) n x).mpr ⟨(List.getElem?_eq_some_iff.mp h1).1, es, e, h1, h2, h3⟩
      refine ⟨.ref Fl, rfl, Fl, _, rfl, .inl (.of hF6), fun Z nZ => ?_⟩
      have e7 := same_new (o := .lst (nV F)) nZ
      exact ⟨Z, _, _, _, _, _, F, rfl, e6.trans e7, e7 _ _ hD6, upd_same, fin⟩
end
end Sg
set_option Elab.async false
set_option linter.all false
set_option maxRecDepth 100000
set_option maxHeartbeats 4000000
namespace Sg
open PySem PySem.Spec PyProof.Rows L2 StX
theorem minD_ints : ∀ (ps : List (List Int)) (p : List Int), ∃ q ∈ p :: ps, PySem.W.minD (tD p) (ps.map tD) = tD q ∧ ∀ r ∈ p :: ps, lexI r q = false
  | [], p => ⟨p, List.mem_cons_self, rfl, fun r hr => by rw [List.mem_singleton.mp hr]; exact lexI_irr p⟩
  | y :: ps, p => by
    have e : PySem.W.minD (tD p) ((y :: ps).map tD) = PySem.W.minD (tD (if lexI y p = true then y else p)) (ps.map tD) := by
      unfold PySem.W.minD
      rw [List.map_cons, List.foldl_cons, lt_ints]
      split <;> rfl
    obtain ⟨q, hq, e2, hm⟩ := minD_ints ps (if lexI y p = true then y else p)
    rw [← e] at e2
    have h0 := hm _ List.mem_cons_self
    refine ⟨q, ?_, e2, fun r hr => ?_⟩
    · rcases List.mem_cons.mp hq with rfl | hq
      · split
        · exact List.mem_cons_of_mem _ List.mem_cons_self
        · exact List.mem_cons_self
      · exact List.mem_cons_of_mem _ (List.mem_cons_of_mem _ hq)
    · rcases List.mem_cons.mp hr with rfl | hr
      · by_cases g : lexI y r = true
        · rw [if_pos g] at h0
          exact lexI_neg _ _ _ (lexI_asym _ _ g) h0
        · rw [if_neg g] at h0; exact h0
      · rcases List.mem_cons.mp hr with rfl | hr
        · by_cases g : lexI r p = true
          · rw [if_pos g] at h0; exact h0
          · rw [if_neg g] at h0
            exact lexI_neg _ _ _ (by cases z : lexI r p with
              | true => exact absurd z g
              | false => rfl) h0
        · exact hm r (List.mem_cons_of_mem _ hr)
/-- how far what is behind some edges is from the goal -/
def wayD (L : SnL) (es : List Edge) : List Int := es.filterMap fun e => (snV L e.2.2).map fun d : Nat => (d : Int)
theorem wayD_mem {L : SnL} {es : List Edge} {z : Int} : z ∈ wayD L es ↔ ∃ e ∈ es, ∃ d : Nat, snV L e.2.2 = some d ∧ z = d := by
  unfold wayD
  rw [List.mem_filterMap]
  constructor
  · rintro ⟨e, he, h⟩
    obtain ⟨d, h1, h2⟩ := Option.map_eq_some_iff.mp h
    exact ⟨e, he, d, h1, h2.symm⟩
  · rintro ⟨e, he, d, h1, rfl⟩
    exact ⟨e, he, by rw [h1]; rfl⟩
theorem wayD_take {L : SnL} {es : List Edge} {i : Nat} {e : Edge} (h : es[i]? = some e) : wayD L (es.take (i + 1)) = wayD L (es.take i) ++ ((snV L e.2.2).map fun d : Nat => (d : Int)).toList := by
  unfold wayD
  rw [List.take_add_one, h, List.filterMap_append]
  cases h2 : snV L e.2.2 <;> simp [List.filterMap_cons, h2]
/-- edges to a node so far from the goal -/
def nearE (L : SnL) (d : Nat) (es : List Edge) : List Edge := es.filter fun e => decide (snV L e.2.2 = some d)
theorem nearE_take {L : SnL} {d : Nat} {es : List Edge} {i : Nat} {e : Edge} (h : es[i]? = some e) : nearE L d (es.take (i + 1)) = nearE L d (es.take i) ++ if snV L e.2.2 = some d then [e] else [] := by
  unfold nearE
  rw [List.take_add_one, h, List.filter_append]
  by_cases z : snV L e.2.2 = some d
  · rw [if_pos z]; simp [z]
  · rw [if_neg z]; simp [z]
abbrev PrE (H : Hp) : List V → List Edge → Prop := Paired fun v e => ∃ t, v = V.ref t ∧ H t = some (.tup [.int e.1, .int (e.2.2 : Nat)])
theorem PrE.keep {H H' : Hp} (e : KeepT H H') {ts : List V} {es : List Edge} (h : PrE H ts es) : PrE H' ts es := by
  unfold PrE at h ⊢
  induction h with
  | nil => exact .nil
  | cons a t ih =>
    obtain ⟨b, rfl, hb⟩ := a
    exact .cons ⟨b, rfl, e _ _ hb⟩ ih
theorem PrE.dp {K : PySem.W.Frag} {H : Hp} {ts : List V} {es : List Edge} (h : PrE H ts es) : DpAll K H ts ((es.map fun e => [e.1, ((e.2.2 : Nat) : Int)]).map tD) := by
  unfold PrE at h
  induction h with
  | nil => exact .nil
  | @cons v e ts es a t ih =>
    obtain ⟨b, rfl, hb⟩ := a
    exact .cons (Tp.ofInts (ns := [e.1, ((e.2.2 : Nat) : Int)]) (.of hb)).dp ih
theorem alikeD (ps : List (List Int)) : PySem.W.AlikeAll (ps.map tD) := by
  refine ⟨fun x hx y hy => ?_, fun x hx => ?_⟩
  · obtain ⟨x', _, rfl⟩ := List.mem_map.mp hx
    obtain ⟨y', _, rfl⟩ := List.mem_map.mp hy
    have := PySem.W.alike_ints x' y'
    simp only [tD, PySem.W.alike]; exact this
  · obtain ⟨x', _, rfl⟩ := List.mem_map.mp hx
    exact fun z => nomatch z
theorem depthD : ∀ ps : List (List Int), PyData.depthAll (ps.map tD) ≤ 2
  | [] => by simp [PyData.depthAll]
  | p :: ps => by
    have := depthD ps
    show PyData.depthAll (.tuple (iD p) :: ps.map tD) ≤ 2
    rw [PyData.depthAll, PyData.depth, dep_iD]
    omega
theorem lexI_pair {a b : Int} {c d : Int} (h : lexI [a, b] [c, d] = false) : c ≤ a := by
  have h : (if a = c then lexI [b] [d] else decide (a < c)) = false := h
  by_cases z : a = c
  · omega
  · rw [if_neg z] at h
    have := of_decide_eq_false h
    omega
section
variable {P : Program} {w : World} {K : PySem.W.Frag} {mg : Str → Option Value} {base : Heap}
/-! ### _labels_round -/
def spRound : Sp := fun vs H Q _ => ∃ (g D : Addr) (st m : Nat) (us : List V) (G : Gr) (L : SnL), vs = [.ref g, .int (st : Nat), .ref D] ∧ H g = some (.lst us) ∧ GrAt H us G ∧ H D = some (.dK (snD L)) ∧ StepsOk G st m L ∧ WfG G ∧ DetG G ∧ FewG G ∧ st < G.length ∧ m < G.length ∧
  (∀ H', Same H H' → (∀ rs, WkL G st st rs → rs ≠ [] → m + 1 < rs.length) → Q .non H') ∧
  ∀ H' t (ls : List Int), Same H H' → H' t = some (.tup (ls.map V.int)) → SmallW G st st ls → ls ≠ [] → ls.length ≤ m + 1 → (∀ rs, WkL G st st rs → rs ≠ [] → ls.length ≤ rs.length) → Q (.ref t) H'
abbrev rndN : List Str := ["graph", "start", "steps", "ways", "_", "behind", "labels", "node", "left", "nearer", "label"]
theorem ok_round {f : Addr} {fd : FuncData} {k : Nat} (F : Fun K "_labels_round" "_labels_round" s_labels_round f fd) (m1 : mg "range" = none) (m2 : mg "min" = none) (m3 : mg "tuple" = none) : FnOk P w K mg base CX0 (k + 1) f fd ["graph", "start", "steps"] spRound := by
  refine F.ok sc_labels_round (fun vs H Q E h => ?_) (fun cdv A outer s H vs Q E hr h => ?_)
  · obtain ⟨g, D, st, m, us, G, L, rfl, _⟩ := h; rfl
  · obtain ⟨g, D, st, m, us, G, L, rfl, hg, hG, hD, hL, W, DG, N, hst, hm, qn, qs⟩ := h
    have hu2 := hu_of hr
    refine ⟨_, pss_cons (ps_setLc (i := 3) (own := [("_", 4), ("behind", 5)]) (g := gTup K 3 (gCons (gName 4) (gCons (gName 4) (gCons (gName 5) gNil)))) rfl sc_labels_round.nd rfl rfl (sw_true rfl rfl rfl (by decide +kernel)) (pi_list (pe_ix ix_list (pv 0) (pv 1) (fun _ _ => rfl)))
          (blkOk_by (N := rndN) (sc := defScope s_labels_round) (by decide +kernel))
          (fun _ _ _ _ _ => pg_tup rfl (pgs_cons (pg_name (i := 4) sc_labels_round.nd rfl (Or.inl rfl)) (pgs_cons (pg_name (i := 4) sc_labels_round.nd rfl (Or.inl rfl)) (pgs_cons (pg_name (i := 5) sc_labels_round.nd rfl (Or.inl rfl)) pgs_nil))))
          (fun _ _ _ _ _ => pts_one (pt_cmp (pc_din hu2 (pv 5) (pv 2))))
          (fun _ _ _ _ _ => pe_dget hu2 (pv 2) (pv 5) (fun _ _ => rfl)))
      (pss_cons (ps_if (pt_not (pt_truth (pv 3) (by intro _; rfl))) (pss_one (ps_ret pe_non)) pss_nil)
      (pss_cons (ps_set (i := 6) sc_labels_round.nd rfl (by first | exact .inl rfl | exact .inr rfl) (pe_lst pa_nil))
      (pss_cons (ps_set (i := 7) sc_labels_round.nd rfl (by first | exact .inl rfl | exact .inr rfl) (pv 1))
      (pss_cons (ps_for PassesOwn.never rfl (pi_range3 (by rfl) m1 (pa_cons (pe_callB (cr_min rfl) (by rfl) m2 (by decide +kernel) (pa_cons (pv 3) pa_nil)) (pa_cons (pe_un un_neg pe_int) (pa_cons (pe_un un_neg pe_int) pa_nil)))) (pg_name (i := 8) sc_labels_round.nd rfl (by first | exact .inl rfl | exact .inr rfl))
        (pss_cons (ps_setLc (i := 9) (own := [("label", 10), ("_", 4), ("behind", 5)]) (g := gTup K 3 (gCons (gName 10) (gCons (gName 4) (gCons (gName 5) gNil)))) rfl sc_labels_round.nd rfl rfl (sw_true rfl rfl rfl (by decide +kernel)) (pi_list (pe_ix ix_list (pv 0) (pv 7) (fun _ _ => rfl)))
          (blkOk_by (N := rndN) (sc := defScope s_labels_round) (by decide +kernel))
          (fun _ _ _ _ _ => pg_tup rfl (pgs_cons (pg_name (i := 10) sc_labels_round.nd rfl (Or.inl rfl)) (pgs_cons (pg_name (i := 4) sc_labels_round.nd rfl (Or.inl rfl)) (pgs_cons (pg_name (i := 5) sc_labels_round.nd rfl (Or.inl rfl)) pgs_nil))))
          (fun _ _ _ _ _ => pts_one (pt_cmpR op_eq (pe_dget1 hu2 (pv 2) (pv 5) ⟨by rfl, by rfl, by rfl, by rfl⟩) (pv 8) (nomark _)))
          (fun _ _ _ _ _ => pe_tup (pa_cons (pv 10) (pa_cons (pv 5) pa_nil))))
        (pss_cons (ps_asg (pe_callB (cr_minL rfl hr) (by rfl) m2 (by decide +kernel) (pa_cons (pv 9) pa_nil)) (pg_tup rfl (pgs_cons (pg_name (i := 10) sc_labels_round.nd rfl (by first | exact .inl rfl | exact .inr rfl)) (pgs_cons (pg_name (i := 7) sc_labels_round.nd rfl (by first | exact .inl rfl | exact .inr rfl)) pgs_nil))))
        (pss_one (ps_expr (pe_bm PySem.F.plainAttrs_list PySem.F.slot_list_append PySem.F.type_list_append mt_append (pv 6) (pa_cons (pv 10) pa_nil)))))))
      (pss_one (ps_ret (pe_callTy call_tuple_of (by rfl) m3 (by decide +kernel) (pa_cons (pv 6) pa_nil)))))))), ?_⟩
    have big : 10000000 ≤ sizeLine := by rw [sizeLine_eq]; decide
    have nN := N.nodes
    obtain ⟨u0, hu0⟩ : ∃ u0, us[st]? = some u0 := ⟨_, List.getElem?_eq_getElem (show st < us.length by rw [show us.length = G.length from Paired.length hG]; exact hst)⟩
    obtain ⟨es0, hes0, ge0, ps0, rfl, hge0, hps0⟩ := paired_get hG hu0
    have few0 := N.edges es0 (List.mem_of_getElem? hes0)
    have lps0 := Paired.length hps0
    have dget : ∀ {H'}, H' D = some (.dK (snD L)) → ∀ v : Nat, DGet H' D (.int (v : Nat)) ((snV L v).map fun s => V.int (s : Nat)) := fun h v => by
      rw [← snD_at]
      exact DGet.k (k := Sum.inl ((v : Nat) : Int)) h
    refine ⟨.ref g, rfl, .int (st : Nat), rfl, g, us, (st : Nat), .ref ge0, rfl, rfl, .of hg, atI_nat hu0, ge0, rfl, ⟨_, .of hge0⟩, fun Wy nW => ?_⟩
    refine lc_list (xs := ps0) (fun i H' => Same H H' ∧ H' Wy = some (.lst ((wayD L (es0.take i)).map V.int))) ⟨same_new nW, upd_same⟩ (fun i H' _ h => .of (h.1 _ _ hge0)) (fun i x H' hx h => ?_) (fun H1 h => ?_)
    · obtain ⟨e, hW⟩ := h
      obtain ⟨e1, he1, t, rfl, ht⟩ := paired_get hps0 hx
      have hi := (List.getElem?_eq_some_iff.mp he1).1
      refine ⟨t, _, rfl, .of (e _ _ ht), rfl, _, _, rfl, _, _, rfl, _, _, rfl, rfl, rfl, ?_⟩
      rw [wayD_take he1]
      refine ⟨.int (e1.2.2 : Nat), rfl, .ref D, rfl, D, _, rfl, dget (e _ _ hD) _, _, rfl, ?_⟩
      have hg2 := dget (e _ _ hD) e1.2.2
      cases hv : snV L e1.2.2 with
      | none =>
        refine iteF ⟨e, ?_⟩
        show _ = some (HO.lst ((wayD L (es0.take i) ++ []).map V.int))
        rw [List.append_nil]; exact hW
      | some d =>
        rw [hv] at hg2
        have lw : (wayD L (es0.take i)).length ≤ es0.length := by
          unfold wayD
          refine Nat.le_trans (List.length_filterMap_le _ _) ?_
          rw [List.length_take]; omega
        refine iteT ⟨.ref D, rfl, .int (e1.2.2 : Nat), rfl, D, .int (d : Nat), rfl, hg2, _, hW, by rw [List.length_map]; omega, fun b o z => ?_, ?_⟩
        · rw [upd_ne (ne_of_none z nW)]; exact e _ _ z
        · rw [upd_same, List.map_append]; rfl
    obtain ⟨e1, hW1⟩ := h
    rw [lps0, List.take_length] at hW1
    have ways : ∀ e ∈ es0, ∀ rs, WkL G e.2.2 st rs → (∃ d : Nat, ((d : Nat) : Int) ∈ wayD L es0 ∧ d ≤ rs.length) ∨ m < rs.length := fun e he rs hr => by
      obtain ⟨d, h1, h2⟩ := nrm_of _ hr (Nat.le_refl _)
      by_cases z : d ≤ m
      · exact .inl ⟨d, wayD_mem.mpr ⟨e, he, d, (hL _ _).mpr ⟨h1, z⟩, rfl⟩, h2⟩
      · exact .inr (by omega)
    refine ⟨.ref Wy, rfl, !((wayD L es0).map V.int).isEmpty, .inl ⟨_, .of hW1, rfl⟩, ?_⟩
    cases hw : wayD L es0 with
    | nil =>
      refine iteT ?_
      refine qn H1 e1 fun rs hr h0 => ?_
      cases hr with
      | nil => exact absurd rfl h0
      | @cons _ _ es e ls hv he hk =>
        rw [hes0] at hv
        obtain rfl := Option.some.inj hv
        rcases ways e he ls hk with ⟨d, hd, _⟩ | h
        · rw [hw] at hd; exact nomatch hd
        · rw [List.length_cons]; omega
    | cons z0 zs =>
    refine iteF ?_
    rw [hw] at hW1
    refine ⟨by show 0 ≤ sizeLine; omega, fun Lb nLb => ?_⟩
    have nLbH := freeS e1 nLb
    have e2 := e1.trans (same_new (o := .lst []) nLb)
    have hW2 := same_new (o := .lst []) nLb _ _ hW1
    have hLb2 : (upd H1 Lb (.lst [])) Lb = some (.lst (([] : List Int).map V.int)) := upd_same
    generalize upd H1 Lb (.lst []) = H2 at e2 hW2 hLb2 ⊢
    refine ⟨.int (st : Nat), rfl, .ref Wy, rfl, Wy, z0 :: zs, rfl, .of hW2, Nat.succ_pos _, fun mn hmn hle => ?_⟩
    obtain ⟨e0, he0, d, hd0, rfl⟩ : ∃ e ∈ es0, ∃ d : Nat, snV L e.2.2 = some d ∧ mn = d := by
      rw [← hw] at hmn
      exact wayD_mem.mp hmn
    have least : ∀ e ∈ es0, ∀ rs, WkL G e.2.2 st rs → d ≤ rs.length := fun e he rs hr => by
      obtain ⟨hN0, hdm⟩ := (hL _ _).mp hd0
      rcases ways e he rs hr with ⟨d', h1, h2⟩ | h
      · rw [hw] at h1
        have := hle _ h1
        omega
      · omega
    obtain ⟨hN0, hdm⟩ := (hL _ _).mp hd0
    refine ⟨1, rfl, 1, rfl, (d : Nat), -1, -1, _, rfl, RgC.neg (by omega) (by omega) (by decide) (by decide), ?_⟩
    have en : ((d : Int) - (-1)).toNat = d + 1 := by omega
    refine for_rangeC (lo := (d : Nat)) (c := -1) (n := ((d : Int) - (-1)).toNat) (fun i σ H' => ∃ (nd : Nat) (ls : List Int) (v8 v9 v10 : Option V), σ = [some (.ref g), some (.int (st : Nat)), some (.ref D), some (.ref Wy), none, none, some (.ref Lb), some (.int (nd : Nat)), v8, v9, v10] ∧ Same H H' ∧ H' Lb = some (.lst (ls.map V.int)) ∧
        ls.length = i ∧ nd < G.length ∧ (∀ rs, SmallW G nd st rs → rs.length = d + 1 - i → SmallW G st st (ls ++ rs)) ∧ (i ≤ d → ∀ es, G[nd]? = some es → (∃ e ∈ es, Nrm G st e.2.2 (d - i)) ∧ ∀ e ∈ es, ∀ rs, WkL G e.2.2 st rs → d - i ≤ rs.length) ∧ (i = d + 1 → nd = st))
      ⟨st, [], _, _, _, rfl, e2, hLb2, rfl, hst, fun rs hr _ => hr, fun _ es he => by
        rw [hes0] at he
        obtain rfl := Option.some.inj he
        exact ⟨⟨e0, he0, hN0⟩, least⟩, fun z => nomatch z⟩ ?_ ?_
    rotate_left
    · rintro σ H3 ⟨nd, ls, v8, v9, v10, rfl, e3, hLb3, lls, hnd, rem, far, fin⟩
      rw [en] at lls rem far fin
      obtain rfl := fin rfl
      have hs := rem [] (small_nil G nd) (by rw [Nat.sub_self]; rfl)
      rw [List.append_nil] at hs
      refine ⟨.ref Lb, rfl, Lb, _, rfl, .inl ⟨.of hLb3, fun t nt => ?_⟩⟩
      have et := same_new (o := .tup (ls.map V.int)) nt
      refine qs _ t ls (e3.trans et) upd_same hs (fun z => by rw [z] at lls; exact nomatch lls) (by omega) fun rs hr h0 => ?_
      cases hr with
      | nil => exact absurd rfl h0
      | @cons _ _ es e ks hv he hk =>
        rw [hes0] at hv
        obtain rfl := Option.some.inj hv
        have := least e he ks hk
        rw [List.length_cons]; omega
    rintro i σ H3 hi ⟨nd, ls, v8, v9, v10, rfl, e3, hLb3, lls, hnd, rem, far, fin⟩
    rw [en] at hi
    have hid : i ≤ d := by omega
    rw [show ((d : Nat) : Int) + (i : Nat) * (-1) = ((d - i : Nat) : Int) by omega]
    obtain ⟨un, hun⟩ : ∃ un, us[nd]? = some un := ⟨_, List.getElem?_eq_getElem (show nd < us.length by rw [show us.length = G.length from Paired.length hG]; exact hnd)⟩
    obtain ⟨es, hes, ge, ps, rfl, hge, hps⟩ := paired_get hG hun
    obtain ⟨⟨ex, hex, hNx⟩, hfar⟩ := far hid es hes
    have few := N.edges es (List.mem_of_getElem? hes)
    have lps := Paired.length hps
    refine ⟨.ref g, rfl, .int (nd : Nat), rfl, g, us, (nd : Nat), .ref ge, rfl, rfl, .of (e3 _ _ hg), atI_nat hun, ge, rfl, ⟨_, .of (e3 _ _ hge)⟩, fun Nr nNr => ?_⟩
    have nNrH := freeS e3 nNr
    refine lc_list (xs := ps) (fun j H' => Same H3 H' ∧ ∃ ts, H' Nr = some (.lst ts) ∧ PrE H' ts (nearE L (d - i) (es.take j))) ⟨same_new nNr, [], upd_same, .nil⟩ (fun j H' _ h => .of (h.1 _ _ (e3 _ _ hge))) (fun j x H' hx h => ?_) (fun H4 h => ?_)
    · obtain ⟨e, ts, hNr, hPr⟩ := h
      obtain ⟨ej, hej, t, rfl, ht⟩ := paired_get hps hx
      refine ⟨t, _, rfl, .of (e _ _ (e3 _ _ ht)), rfl, _, _, rfl, _, _, rfl, _, _, rfl, rfl, rfl, ?_⟩
      have hD' := e _ _ (e3 _ _ hD)
      have lts := Paired.length hPr
      have lne : (nearE L (d - i) (es.take j)).length ≤ es.length := by
        unfold nearE
        refine Nat.le_trans (List.length_filter_le _ _) ?_
        rw [List.length_take]; omega
      rw [nearE_take hej]
      refine ⟨.ref D, rfl, D, rfl, .inl ⟨_, .inl hD'⟩, .int (ej.2.2 : Nat), rfl, _, dget hD' ej.2.2, ?_⟩
      cases hv : snV L ej.2.2 with
      | none =>
        rw [if_neg (fun z => nomatch z)]
        refine ⟨.int ((d - i : Nat) : Int), rfl, rfl, _, rfl, iteF ⟨e, ts, hNr, ?_⟩⟩
        rw [List.append_nil]; exact hPr
      | some d' =>
        refine ⟨.int ((d - i : Nat) : Int), rfl, rfl, _, rfl, ?_⟩
        by_cases z : d' = d - i
        · subst z
          rw [if_pos rfl]
          refine (show if decide (V.int ((d - i : Nat) : Int) = V.int ((d - i : Nat) : Int)) = true then _ else _ from ?_)
          rw [decide_eq_true rfl]
          refine iteT ⟨.int ej.1, rfl, .int (ej.2.2 : Nat), rfl, by show 2 ≤ sizeLine; omega, fun u nu => ?_⟩
          have eu := same_new (o := .tup [V.int ej.1, V.int (ej.2.2 : Nat)]) nu
          have hu : (upd H' u (.tup [V.int ej.1, V.int (ej.2.2 : Nat)])) u = some (.tup [V.int ej.1, V.int (ej.2.2 : Nat)]) := upd_same
          have hNr2 := eu _ _ hNr
          have k1 := KeepT.upd (o' := .lst (ts ++ [.ref u])) hNr2 fun _ z => nomatch z
          refine ⟨ts, hNr2, by omega, fun b o z => ?_, ts ++ [.ref u], upd_same, ?_⟩
          · rw [upd_ne (ne_of_none z nNr)]
            exact eu _ _ (e _ _ z)
          · exact Paired.snoc ((hPr.keep (.of eu)).keep k1) ⟨u, rfl, k1 _ _ hu⟩
        · rw [if_neg (fun c => z (Option.some.inj c)), show decide ((Option.map (fun s : Nat => V.int (s : Nat)) (some d')).getD V.non = V.int ((d - i : Nat) : Int)) = false from decide_eq_false (fun c => z (by have := V.int.inj c; omega)), List.append_nil]
          exact iteF ⟨e, ts, hNr, hPr⟩
    obtain ⟨e4, ts, hNr4, hPr⟩ := h
    rw [lps, List.take_length] at hPr
    have e34 := e3.trans e4
    have hLb4 := e4 _ _ hLb3
    -- the least of those that are near
    have hexn : ex ∈ nearE L (d - i) es := List.mem_filter.mpr ⟨hex, decide_eq_true ((hL _ _).mpr ⟨hNx, by omega⟩)⟩
    cases hne : nearE L (d - i) es with
    | nil => rw [hne] at hexn; exact nomatch hexn
    | cons f0 fs =>
    rw [hne] at hPr
    obtain ⟨qm, hqm, eqm, hql⟩ := minD_ints (fs.map fun e : Edge => [e.1, ((e.2.2 : Nat) : Int)]) [f0.1, ((f0.2.2 : Nat) : Int)]
    have hdp := hPr.dp (K := K)
    refine ⟨.ref Nr, rfl, Nr, ts, tD [f0.1, ((f0.2.2 : Nat) : Int)], (fs.map fun e : Edge => [e.1, ((e.2.2 : Nat) : Int)]).map tD, rfl, .of hNr4, hdp, alikeD ([f0.1, ((f0.2.2 : Nat) : Int)] :: fs.map fun e : Edge => [e.1, ((e.2.2 : Nat) : Int)]), ?_, fun j y hy hej => ?_⟩
    · have := depthD ([f0.1, ((f0.2.2 : Nat) : Int)] :: fs.map fun e : Edge => [e.1, ((e.2.2 : Nat) : Int)])
      rw [List.map_cons] at this
      omega
    rw [eqm] at hej
    obtain ⟨e, he, t, rfl, ht⟩ := paired_get hPr hy
    have hej2 : ((f0 :: fs).map fun e : Edge => tD [e.1, ((e.2.2 : Nat) : Int)])[j]? = some (tD qm) := by
      rw [← hej]; simp [List.map_map, Function.comp_def]
    rw [List.getElem?_map, he] at hej2
    have eqq : [e.1, ((e.2.2 : Nat) : Int)] = qm := by
      have h1 : tD [e.1, ((e.2.2 : Nat) : Int)] = tD qm := Option.some.inj hej2
      have h2 := eqv_tD [e.1, ((e.2.2 : Nat) : Int)] qm
      rw [h1, eqv_tD] at h2
      rw [decide_eq_true rfl] at h2
      exact of_decide_eq_true h2.symm
    have hem0 : e ∈ nearE L (d - i) es := by rw [hne]; exact List.mem_of_getElem? he
    obtain ⟨hem, hed⟩ := List.mem_filter.mp hem0
    have hed := of_decide_eq_true hed
    obtain ⟨hNe, _⟩ := (hL _ _).mp hed
    have hlab : ∀ f ∈ nearE L (d - i) es, e.1 ≤ f.1 := fun f hf => by
      rw [hne] at hf
      have : [f.1, ((f.2.2 : Nat) : Int)] ∈ [f0.1, ((f0.2.2 : Nat) : Int)] :: fs.map fun e : Edge => [e.1, ((e.2.2 : Nat) : Int)] := by
        rcases List.mem_cons.mp hf with rfl | hf
        · exact List.mem_cons_self
        · exact List.mem_cons_of_mem _ (List.mem_map.mpr ⟨f, hf, rfl⟩)
      have := hql _ this
      rw [← eqq] at this
      exact lexI_pair this
    refine ⟨t, _, rfl, .of ht, rfl, _, _, rfl, _, _, rfl, rfl, ?_⟩
    refine ⟨.ref Lb, rfl, .inl ⟨rfl, _, .of hLb4⟩, .int e.1, rfl, Lb, _, _, rfl, rfl, hLb4, by rw [List.length_map]; omega, ?_⟩
    refine ⟨e.2.2, ls ++ [e.1], _, _, _, rfl, fun b o z => by rw [upd_ne (ne_of_none z nLbH)]; exact e34 _ _ z, by rw [upd_same, List.map_append]; rfl, by rw [List.length_append, lls]; rfl, W.behind es (List.mem_of_getElem? hes) e hem, fun rs hr hl => ?_, fun hi1 es' hes' => ?_, fun hi1 => ?_⟩
    · have := rem (e.1 :: rs) (small_step DG hes hem hr fun f hf ⟨ks, hk, hkl⟩ => ?_) (by rw [List.length_cons]; omega)
      · rw [List.append_assoc]; exact this
      · refine hlab f (List.mem_filter.mpr ⟨hf, decide_eq_true ((hL _ _).mpr ⟨⟨⟨ks, hk, by omega⟩, hfar f hf⟩, by omega⟩)⟩)
    · have e' : d - i = (d - (i + 1)) + 1 := by omega
      rw [e'] at hNe
      obtain ⟨⟨es2, e2', h1, h2, h3⟩, _⟩ := nrm_succ.mp hNe
      rw [h1] at hes'
      obtain rfl := Option.some.inj hes'
      refine ⟨⟨e2', h2, h3⟩, fun e3' he3 rs hr => ?_⟩
      have := hNe.2 _ (.cons h1 he3 hr)
      rw [List.length_cons] at this
      omega
    · have : d - i = 0 := by omega
      rw [this] at hNe
      exact nrm_zero.mp hNe
end
end Sg
set_option Elab.async false
set_option linter.all false
set_option maxRecDepth 100000
set_option maxHeartbeats 4000000
namespace Sg
open PySem PySem.Spec PyProof.Rows L2 StX
/-- (length, labels) of a cycle as data -/
def lapD (ls : List Int) : PyData := .tuple [.int (ls.length : Nat), tD ls]
def slexB (a b : List Int) : Bool := if a.length = b.length then lexI a b else decide (a.length < b.length)
theorem lt_lap (a b : List Int) : PySem.W.dataLt (lapD a) (lapD b) = slexB a b := by
  unfold lapD slexB
  have al : PySem.W.alike (tD a) (tD b) = true := by
    have := PySem.W.alike_ints a b
    simp only [PySem.W.alike]; exact this
  rw [PySem.W.dataLt_tuple]
  show PySem.W.rowLt [.int ((a.length : Nat) : Int), tD a] [.int ((b.length : Nat) : Int), tD b] = _
  rw [rowLt_cons (by simp [PySem.W.alike]), rowLt_cons al, eqv_tD, PySem.W.dataLt_int, lt_ints, rowLt_nil]
  simp only [PyData.eqv, beq_iff_eq]
  by_cases h : a.length = b.length
  · rw [if_pos h, if_pos (by rw [h])]
    by_cases e : a = b
    · subst e
      rw [decide_eq_true rfl, if_pos rfl, lexI_irr]
    · rw [decide_eq_false e, if_neg (by decide)]
  · rw [if_neg h, if_neg (by omega)]
    by_cases g : a.length < b.length
    · rw [decide_eq_true g, decide_eq_true (by omega)]
    · rw [decide_eq_false g, decide_eq_false (by omega)]
theorem slexB_false {a b : List Int} (h : slexB a b = false) : slexF a b := by
  unfold slexB at h
  by_cases e : a.length = b.length
  · rw [if_pos e] at h
    exact .inr ⟨e.symm, h⟩
  · rw [if_neg e] at h
    have := of_decide_eq_false h
    exact .inl (by omega)
theorem slexB_true {a b : List Int} (h : slexB a b = true) : slexF b a := by
  unfold slexB at h
  by_cases e : a.length = b.length
  · rw [if_pos e] at h
    exact .inr ⟨e, lexI_asym _ _ h⟩
  · rw [if_neg e] at h
    exact .inl (of_decide_eq_true h)
theorem lap_dp {K : PySem.W.Frag} {H : Hp} {u t : Addr} {ls : List Int} (hu : H u = some (.tup [V.int (((ls.map V.int).length : Nat) : Int), .ref t])) (ht : H t = some (.tup (ls.map V.int))) : Dp K H (.ref u) (lapD ls) := by
  rw [List.length_map] at hu
  exact .tup (.of hu) (.cons (.int _) (.cons (Tp.ofInts (ns := ls) (.of ht)).dp .nil))
theorem alike_lap (a b : List Int) : PySem.W.alike (lapD a) (lapD b) = true := by
  unfold lapD
  have := PySem.W.alike_ints a b
  simp only [PySem.W.alike, PySem.W.alikeAll, Bool.and_true, Bool.true_and]
  exact this
theorem depth_lap (a : List Int) : (lapD a).depth ≤ 40 := by
  unfold lapD
  rw [PyData.depth, PyData.depthAll, PyData.depthAll, PyData.depthAll, PyData.depth, PyData.depth, dep_iD]
  decide
section
variable {P : Program} {w : World} {K : PySem.W.Frag} {mg : Str → Option Value} {base : Heap}
/-! ### smallest_cycle -/
def spSmallest : Sp := fun vs H Q _ => ∃ (g : Addr) (us : List V) (G : Gr), vs = [.ref g] ∧ H g = some (.lst us) ∧ GrAt H us G ∧ WfG G ∧ DetG G ∧ FewG G ∧ (∃ v rs, v < G.length ∧ WkL G v v rs ∧ rs ≠ []) ∧
  ∀ H' t (ls : List Int), Same H H' → H' t = some (.tup (ls.map V.int)) → MinCyc G ls → ls.length ≤ G.length → Q (.ref t) H'
/-- what was found among the first starts -/
def BestOf (G : Gr) (i : Nat) (H : Hp) (v : V) : Prop :=
  (v = .non ∧ ∀ st, st < i → ∀ rs, WkL G st st rs → rs = []) ∨
  ∃ t ls, v = .ref t ∧ H t = some (.tup ((ls : List Int).map V.int)) ∧ (∃ v, v < G.length ∧ WkL G v v ls) ∧ ls ≠ [] ∧ ls.length ≤ G.length ∧ ∀ st rs, st < i → WkL G st st rs → rs ≠ [] → slexF rs ls
theorem BestOf.keep {G : Gr} {i : Nat} {H H' : Hp} {v : V} (e : Same H H') (h : BestOf G i H v) : BestOf G i H' v := by
  rcases h with h | ⟨t, ls, h1, h2, h3⟩
  · exact .inl h
  · exact .inr ⟨t, ls, h1, e _ _ h2, h3⟩
/-- how many steps are of use -/
def tMostX (g : Addr) (us : List V) (G : Gr) : TE := fun σ H' Q => ∃ S i v2 v3 v4 v5, σ = [some (.ref g), some (V.ref S), some v2, v3, v4, v5] ∧ H' g = some (.lst us) ∧ BestOf G i H' v2 ∧ ∀ n : Nat, 1 ≤ n → n ≤ G.length → ((v2 = .non ∧ n = G.length) ∨ ∃ t ls, v2 = .ref t ∧ H' t = some (.tup ((ls : List Int).map V.int)) ∧ n = ls.length) → Q (.int (n : Nat)) H'
theorem ok_smallest {f f1 f2 f3 : Addr} {fd fd1 fd2 fd3 : FuncData} {k : Nat} (F : Fun K "smallest_cycle" "smallest_cycle" s_smallest_cycle f fd)
    (G1 : FnOk P w K mg base CX0 k f1 fd1 ["graph"] spSources) (kp1 : PySem.W.keepIn K (.ref f1) = true) (b1 : Binds K fd1 ["graph"] []) (g1 : mg "_sources" = some (.ref f1))
    (G2 : FnOk P w K mg base CX0 k f2 fd2 ["graph", "start", "steps"] spRound) (kp2 : PySem.W.keepIn K (.ref f2) = true) (b2 : Binds K fd2 ["graph", "start", "steps"] []) (g2 : mg "_labels_round" = some (.ref f2))
    (G3 : FnOk P w K mg base CX0 k f3 fd3 ["sources", "goal", "most"] spStepsTo) (kp3 : PySem.W.keepIn K (.ref f3) = true) (b3 : Binds K fd3 ["sources", "goal", "most"] []) (g3 : mg "_steps_to" = some (.ref f3))
    (m1 : mg "range" = none) (m2 : mg "len" = none) : FnOk P w K mg base CX0 (k + 1) f fd ["graph"] spSmallest := by
  refine F.ok sc_smallest_cycle (fun vs H Q E h => ?_) (fun cdv A outer s H vs Q E hr h => ?_)
  · obtain ⟨g, us, G, rfl, _⟩ := h; rfl
  · obtain ⟨g, us, G, rfl, hg, hG, W, DG, N, hcy, q⟩ := h
    have hu := hr.units
    have lG : us.length = G.length := Paired.length hG
    have G1' : 1 ≤ G.length := by obtain ⟨v, _, hv, _⟩ := hcy; omega
    have hu64 : (A.deeper (envOfC "smallest_cycle" (defScope s_smallest_cycle) s.heap.objs.size f cdv)).units + 64 < cLine := by omega
    refine ⟨_, pss_cons (ps_set (i := 1) sc_smallest_cycle.nd rfl (.inl rfl) (pe_call G1 hr (by rfl) g1 kp1 b1 .nil pass0 (pa_cons (pv 0) pa_nil)))
      (pss_cons (ps_set (i := 2) sc_smallest_cycle.nd rfl (.inl rfl) pe_non)
      (pss_cons (ps_for PassesOwn.never rfl (pi_range1 (by rfl) m1 (pa_cons (pe_callB call_len_seq (by rfl) m2 PySem.boot_len (pa_cons (pv 0) pa_nil)) pa_nil)) (pg_name (i := 3) sc_smallest_cycle.nd rfl (.inl rfl))
        (pss_cons (ps_set (i := 4) sc_smallest_cycle.nd rfl (.inl rfl) (PE.imp (t' := tMostX g us G) (pe_ifExp (pt_cmpR op_isN (pv 2) pe_non (nomark _)) (pe_callB call_len_seq (by rfl) m2 PySem.boot_len (pa_cons (pv 0) pa_nil)) (pe_callB call_len_seq (by rfl) m2 PySem.boot_len (pa_cons (pv 2) pa_nil))) ?imp))
        (pss_cons (ps_set (i := 5) sc_smallest_cycle.nd rfl (.inl rfl) (pe_call G2 hr (by rfl) g2 kp2 b2 .nil pass0 (pa_cons (pv 0) (pa_cons (pv 3) (pa_cons (pe_call G3 hr (by rfl) g3 kp3 b3 .nil pass0 (pa_cons (pv 1) (pa_cons (pv 3) (pa_cons (pe_op op_sub (pv 4) pe_int) pa_nil)))) pa_nil)))))
        (pss_one (ps_if (PW.pt (pw_and (pt_cmpR op_notN (pv 5) pe_non (nomark _)) (pw_and1 (PW.pt (pw_or (pt_cmpR op_isN (pv 2) pe_non (nomark _))
            (pw_or1 (pt_cmpR (op_ltD hu64) (pe_tup (pa_cons (pe_callB call_len_seq (by rfl) m2 PySem.boot_len (pa_cons (pv 5) pa_nil)) (pa_cons (pv 5) pa_nil))) (pe_tup (pa_cons (pe_callB call_len_seq (by rfl) m2 PySem.boot_len (pa_cons (pv 2) pa_nil)) (pa_cons (pv 2) pa_nil))) (nomark _))))))))
          (pss_one (ps_set (i := 2) sc_smallest_cycle.nd rfl (.inl rfl) (pv 5))) pss_nil)))))
      (pss_one (ps_ret (pv 2))))), ?_⟩
    case imp =>
      rintro σ H' Q' ⟨S, i, v2, v3, v4, v5, rfl, hg', hb, hq⟩
      rcases hb with ⟨rfl, _⟩ | ⟨t, ls, rfl, ht, _, h0, hl, _⟩
      · refine ⟨.non, rfl, rfl, _, rfl, iteT ⟨.ref g, rfl, g, us, rfl, .inl (.of hg'), ?_⟩⟩
        rw [lG]
        exact hq _ G1' (Nat.le_refl _) (.inl ⟨rfl, rfl⟩)
      · refine ⟨.ref t, rfl, rfl, _, rfl, iteF ⟨.ref t, rfl, t, _, rfl, .inr (.of ht), ?_⟩⟩
        rw [List.length_map]
        exact hq _ (List.length_pos_iff.mpr h0) hl (.inr ⟨t, ls, rfl, ht, rfl⟩)
    have big : 10000000 ≤ sizeLine := by rw [sizeLine_eq]; decide
    have nN := N.nodes
    refine ⟨.ref g, rfl, g, us, G, rfl, hg, hG, W, N, fun H1 S as e1 hS1 hA1 nas nS => ?_⟩
    refine ⟨.ref g, rfl, g, us, rfl, .inl (.of (e1 _ _ hg)), (us.length : Nat), rfl, by omega, by omega, ?_⟩
    rw [lG, Int.toNat_natCast]
    refine for_range (lo := 0) (n := G.length) (fun i σ H' => ∃ v2 v3 v4 v5, σ = [some (.ref g), some (.ref S), some v2, v3, v4, v5] ∧ Same H1 H' ∧ BestOf G i H' v2)
      ⟨_, _, _, _, rfl, fun _ _ z => z, .inl ⟨rfl, fun st hst => absurd hst (Nat.not_lt_zero _)⟩⟩ ?_ ?_
    rotate_left
    · rintro σ H2 ⟨v2, v3, v4, v5, rfl, e2, hb⟩
      rcases hb with ⟨rfl, hno⟩ | ⟨t, ls, rfl, ht, hw, h0, hl, hm⟩
      · obtain ⟨v, rs, hv, hr, h0⟩ := hcy
        exact absurd (hno v hv rs hr) h0
      · exact ⟨.ref t, rfl, q H2 t ls (e1.trans e2) ht ⟨hw, h0, fun v rs hv hr hr0 => hm v rs hv hr hr0⟩ hl⟩
    rintro i σ H2 hi ⟨v2, v3, v4, v5, rfl, e2, hb⟩
    rw [Int.zero_add]
    refine ⟨S, i, v2, _, _, _, rfl, e2 _ _ (e1 _ _ hg), hb, fun n n1 nG hn => ?_⟩
    refine ⟨.ref g, rfl, .int (i : Nat), rfl, .ref S, rfl, .int (i : Nat), rfl, .int (n : Nat), rfl, _, _, rfl, rfl, ?_⟩
    refine ⟨S, i, n - 1, as, G, congrArg (fun z => [V.ref S, V.int (i : Nat), V.int z]) (show ((n : Nat) : Int) - 1 = ((n - 1 : Nat) : Int) by omega), e2 _ _ hS1, hA1.keep (fun a _ o z => e2 _ _ z), W, N, hi, by omega, fun H3 D L e3 hD hL => ?_⟩
    have e13 := e1.trans (e2.trans e3)
    have hb3 := hb.keep e3
    refine ⟨g, D, i, n - 1, us, G, L, rfl, e13 _ _ hg, hG.keep e13, hD, hL, W, DG, N, hi, by omega, fun H4 e4 hno => ?_, fun H4 t ls e4 ht hsm h0 hlen hmin => ?_⟩
    · refine ⟨.non, rfl, rfl, _, rfl, iteF (iteF ⟨_, _, _, _, rfl, e2.trans (e3.trans e4), ?_⟩)⟩
      rcases hb3 with ⟨rfl, hno0⟩ | ⟨t, ls, rfl, ht, hw, h0, hl, hm⟩
      · refine .inl ⟨rfl, fun st hst rs hr => ?_⟩
        by_cases z : st = i
        · subst z
          refine Classical.byContradiction fun c => ?_
          obtain ⟨ks, k1, k2, k3⟩ := cyc_short W hi _ hr c (Nat.le_refl _)
          have := hno ks k1 k2
          rcases hn with ⟨_, rfl⟩ | ⟨_, _, z, _⟩
          · omega
          · exact nomatch z
        · exact hno0 st (by omega) rs hr
      · refine .inr ⟨t, ls, rfl, e4 _ _ ht, hw, h0, hl, fun st rs hst hr hr0 => ?_⟩
        by_cases z : st = i
        · subst z
          have := hno rs hr hr0
          rcases hn with ⟨z, _⟩ | ⟨t', ls', z, ht', rfl⟩
          · exact nomatch z
          · obtain rfl := V.ref.inj z
            have h5 := e3 _ _ ht'
            rw [ht] at h5
            have h6 : ls.map V.int = ls'.map V.int := HO.tup.inj (Option.some.inj h5)
            have h7 := congrArg List.length h6
            rw [List.length_map, List.length_map] at h7
            exact .inl (by omega)
        · exact hm st rs (by omega) hr hr0
    · have hcyc : ∃ v, v < G.length ∧ WkL G v v ls := ⟨i, hi, hsm.1⟩
      have hown : ∀ rs, WkL G i i rs → rs ≠ [] → slexF rs ls := fun rs hr hr0 => by
        have := hmin rs hr hr0
        by_cases z : rs.length = ls.length
        · exact .inr ⟨z.symm, hsm.2 rs hr z⟩
        · exact .inl (by omega)
      refine ⟨.ref t, rfl, rfl, _, rfl, iteT ⟨v2, rfl, rfl, _, rfl, ?_⟩⟩
      have hb4 := hb3.keep e4
      rcases hb4 with ⟨rfl, hno0⟩ | ⟨t0, ls0, rfl, ht0, hw0, h00, hl0, hm0⟩
      · refine iteT (iteT ⟨.ref t, rfl, _, _, _, _, rfl, e2.trans (e3.trans e4), .inr ⟨t, ls, rfl, ht, hcyc, h0, by omega, fun st rs hst hr hr0 => ?_⟩⟩)
        by_cases z : st = i
        · subst z; exact hown rs hr hr0
        · exact absurd (hno0 st (by omega) rs hr) hr0
      · refine iteF ⟨.ref t, rfl, t, _, rfl, .inr (.of ht), .ref t, rfl, by show 2 ≤ sizeLine; omega, fun u1 nu1 => ?_⟩
        have eu1 := same_new (o := .tup [V.int (((ls.map V.int).length : Nat) : Int), .ref t]) nu1
        have hu1 : (upd H4 u1 (.tup [V.int (((ls.map V.int).length : Nat) : Int), .ref t])) u1 = some (.tup [V.int (((ls.map V.int).length : Nat) : Int), .ref t]) := upd_same
        generalize upd H4 u1 (.tup [V.int (((ls.map V.int).length : Nat) : Int), .ref t]) = H5 at eu1 hu1 ⊢
        refine ⟨.ref t0, rfl, t0, _, rfl, .inr (.of (eu1 _ _ ht0)), .ref t0, rfl, by show 2 ≤ sizeLine; omega, fun u2 nu2 => ?_⟩
        have eu2 := same_new (o := .tup [V.int (((ls0.map V.int).length : Nat) : Int), .ref t0]) nu2
        have hu2 : (upd H5 u2 (.tup [V.int (((ls0.map V.int).length : Nat) : Int), .ref t0])) u2 = some (.tup [V.int (((ls0.map V.int).length : Nat) : Int), .ref t0]) := upd_same
        generalize upd H5 u2 (.tup [V.int (((ls0.map V.int).length : Nat) : Int), .ref t0]) = H6 at eu2 hu2 ⊢
        have e46 := eu1.trans eu2
        have e26 := e2.trans (e3.trans (e4.trans e46))
        refine ⟨lapD ls, lapD ls0, lap_dp (eu2 _ _ hu1) (e46 _ _ ht), lap_dp hu2 (e46 _ _ ht0), alike_lap _ _, (fun z => nomatch z), depth_lap _, ?_⟩
        rw [lt_lap]
        refine ⟨_, rfl, ite2 (fun c => ?_) (fun c => ?_)⟩
        · refine ⟨.ref t, rfl, _, _, _, _, rfl, e26, .inr ⟨t, ls, rfl, e46 _ _ ht, hcyc, h0, by omega, fun st rs hst hr hr0 => ?_⟩⟩
          by_cases z : st = i
          · subst z; exact hown rs hr hr0
          · exact (hm0 st rs (by omega) hr hr0).trans (slexB_true c)
        · refine ⟨_, _, _, _, rfl, e26, .inr ⟨t0, ls0, rfl, e46 _ _ ht0, hw0, h00, hl0, fun st rs hst hr hr0 => ?_⟩⟩
          have c' : slexB ls ls0 = false := by cases z : slexB ls ls0 with
            | true => exact absurd z c
            | false => rfl
          by_cases z : st = i
          · subst z; exact (hown rs hr hr0).trans (slexB_false c')
          · exact hm0 st rs (by omega) hr hr0
end
end Sg
set_option Elab.async false
set_option linter.all false
set_option maxRecDepth 100000
set_option maxHeartbeats 4000000
namespace Sg
open PySem PySem.Spec PyProof.Rows L2 StX
theorem ix_listQ {X : Cx} {K : PySem.W.Frag} (hK : X.K = K) : IxR X (rIxL K) := by subst hK; exact ix_list
theorem ix_tupQ {X : Cx} {K : PySem.W.Frag} (hK : X.K = K) : IxR X (rIxT K) := by subst hK; exact ix_tup
abbrev tightSc : Scope := { kind := ScopeKind.function, names := [(".0", NameKind.local), ("node", NameKind.cell), ("edges", NameKind.local), ("highest", NameKind.cell), ("prices", NameKind.cell)], isGenerator := false, isCoroutine := false }
theorem few_tight {hi : Int × Int} {p : List Int} {G : Gr} (N : FewG G) : FewG (tightG hi p G) := ⟨by rw [tight_len]; exact N.nodes, fun es hes => by
  obtain ⟨v, fs, h1, rfl⟩ := tight_mem hes
  exact Nat.le_trans (List.length_filter_le _ _) (N.edges fs (List.mem_of_getElem? h1))⟩
theorem tightN_take {hi : Int × Int} {p : List Int} {n : Nat} {es : List Edge} {i : Nat} {e : Edge} (h : es[i]? = some e) : tightN hi p n (es.take (i + 1)) = tightN hi p n (es.take i) ++ if excE hi p n e = 0 then [e] else [] := by
  unfold tightN
  rw [List.take_add_one, h, List.filter_append]
  by_cases z : excE hi p n e = 0
  · rw [if_pos z]; simp [z]
  · rw [if_neg z]; simp [z]
theorem GrAt.upd' {H : Hp} {us : List V} {G : Gr} {R : Addr} {xs : List V} {o' : HO} (h : GrAt H us G) (ne : ∀ u ∈ us, u ≠ V.ref R) (hR : H R = some (.lst xs)) : GrAt (L2.upd H R o') us G := by
  have kT : KeepT H (L2.upd H R o') := .upd hR fun _ z => nomatch z
  unfold GrAt at h ⊢
  induction h with
  | nil => exact .nil
  | cons a t ih =>
    obtain ⟨g, ps, rfl, hg, hp⟩ := a
    refine .cons ⟨g, ps, rfl, ?_, EdgesAt.keep kT hp⟩ (ih fun u hu => ne u (List.mem_cons_of_mem _ hu))
    rw [upd_ne (fun z => ne _ List.mem_cons_self (by rw [z]))]
    exact hg
section
variable {P : Program} {w : World} {K : PySem.W.Frag} {mg : Str → Option Value} {base : Heap}
/-! ### tight_part -/
def spTight : Sp := fun vs H Q _ => ∃ (g h pr : Addr) (us : List V) (G : Gr) (hi : Int × Int) (p : List Int), vs = [.ref g, .ref h, .ref pr] ∧ H g = some (.lst us) ∧ GrAt H us G ∧ H h = some (.tup [.int hi.1, .int hi.2]) ∧ H pr = some (.lst (p.map V.int)) ∧ p.length = G.length ∧ WfG G ∧ SmallG G ∧ FewG G ∧
  ∀ H' g' us', Same H H' → H' g' = some (.lst us') → GrAt H' us' (tightG hi p G) → Q (.ref g') H'
abbrev tgN : List Str := ["graph", "highest", "prices", "edge", "node", "edges"]
theorem ok_tight {f f1 : Addr} {fd fd1 : FuncData} {k : Nat} (F : Fun K "tight_part" "tight_part" s_tight_part f fd)
    (G1 : FnOk P w K mg base CX0 k f1 fd1 ["edge", "highest", "before", "behind"] spExcess) (kp1 : PySem.W.keepIn K (.ref f1) = true) (b1 : Binds K fd1 ["edge", "highest", "before", "behind"] []) (g1 : mg "excess" = some (.ref f1))
    (m1 : mg "enumerate" = none) : FnOk P w K mg base CX0 (k + 1) f fd ["graph", "highest", "prices"] spTight := by
  refine F.ok sc_tight_part (fun vs H Q E h => ?_) (fun cdv A outer s H vs Q E hr h => ?_)
  · obtain ⟨g, h', pr, us, G, hi, p, rfl, _⟩ := h; rfl
  · obtain ⟨g, h', pr, us, G, hi, p, rfl, hg, hG, hh, hp, lp, W, sm, N, q⟩ := h
    refine ⟨_, pss_one (ps_ret (pe_lc (own := [("node", 4), ("edges", 5)]) (g := gTup K 2 (gCons (gName 4) (gCons (gName 5) gNil))) (tt := tYes) rfl sc_tight_part.nd (pi_enum (by rfl) m1 (pa_cons (pv 0) pa_nil)) (blkOk_by (N := tgN) (sc := defScope s_tight_part) (by decide +kernel))
      (fun _ _ _ _ _ => pg_tup rfl (pgs_cons (pg_name (i := 4) sc_tight_part.nd rfl (by first | exact .inl rfl | exact .inr rfl)) (pgs_cons (pg_name (i := 5) sc_tight_part.nd rfl (by first | exact .inl rfl | exact .inr rfl)) pgs_nil))) (fun _ _ _ _ _ => pts_nil)
      (fun _ _ _ _ _ => pe_lc (own := [("edge", 3)]) (g := gName 3) rfl sc_tight_part.nd (pi_listK (K := K) rfl (pv 5)) (blkOk_by (N := tgN) (sc := tightSc) (by decide +kernel))
        (fun _ _ _ _ _ => pg_name (i := 3) sc_tight_part.nd rfl (by first | exact .inl rfl | exact .inr rfl))
        (fun _ _ _ _ _ => pts_one (pt_cmpR op_eq (pe_call G1 hr (by rfl) g1 kp1 b1 .nil pass0 (pa_cons (pv 3) (pa_cons (pv 1) (pa_cons (pe_ix (ix_listQ (K := K) rfl) (pv 2) (pv 4) (fun _ _ => rfl)) (pa_cons (pe_ix (ix_listQ (K := K) rfl) (pv 2) (pe_ix (ix_tupQ (K := K) rfl) (pv 3) pe_int (fun _ _ => rfl)) (fun _ _ => rfl)) pa_nil))))) pe_int (nomark _)))
        (fun _ _ _ _ _ => pv 3)))), ?_⟩
    have big : 10000000 ≤ sizeLine := by rw [sizeLine_eq]; decide
    have nN := N.nodes
    have lG : us.length = G.length := Paired.length hG
    have pat : ∀ v, v < G.length → (p.map V.int)[v]? = some (.int (prc p v)) := fun v hv => by
      rw [List.getElem?_map, List.getElem?_eq_getElem (by omega)]
      unfold prc
      rw [List.getD_eq_getElem?_getD, List.getElem?_eq_getElem (by omega)]; rfl
    refine ⟨.ref g, rfl, g, us, rfl, .of hg, fun R nR => ?_⟩
    refine lc_it (walk_enum (xs := us)) (fun i H' => Same H H' ∧ ∃ rs, H' R = some (.lst rs) ∧ (∀ u ∈ rs, u ≠ V.ref R) ∧ GrAt H' rs ((List.range i).map fun j => tightN hi p j (G.getD j []))) ⟨same_new nR, [], upd_same, (fun u hu => nomatch hu), .nil⟩ (fun i H' _ h => .of (h.1 _ _ hg)) (fun i x H' H'' hil h hY => ?_) (fun H' h => ?_)
    rotate_left
    · obtain ⟨e, rs, hR, _, hrs⟩ := h
      rw [lG] at hrs
      exact q H' R rs e hR hrs
    obtain ⟨e, rs, hR, nrs, hrs⟩ := h
    obtain ⟨T, x1, x2, rfl, nT, rfl, f1, f2⟩ := hY
    dsimp only at f1 f2
    cases f1
    obtain ⟨es, hes, ge, ps, rfl, hge, hps⟩ := paired_get hG f2
    have hil2 := (List.getElem?_eq_some_iff.mp hes).1
    have eT := same_new (o := .tup [V.int (i : Nat), .ref ge]) nT
    have hT2 : (upd H' T (.tup [V.int (i : Nat), .ref ge])) T = some (.tup [V.int (i : Nat), .ref ge]) := upd_same
    have e2 := e.trans eT
    have hR2 := eT _ _ hR
    have hrs2 := hrs.keep eT
    refine ⟨T, _, rfl, .of hT2, rfl, _, _, rfl, _, _, rfl, rfl, rfl, ?_⟩
    generalize upd H' T (.tup [V.int (i : Nat), .ref ge]) = H2 at e2 hR2 hrs2 ⊢
    have lps := Paired.length hps
    have few := N.edges es (List.mem_of_getElem? hes)
    have lrs : rs.length = i := by have := Paired.length hrs; rw [List.length_map, List.length_range] at this; exact this
    refine ⟨.ref ge, rfl, ge, rfl, ⟨_, .of (e2 _ _ hge)⟩, fun R2 nR2 => ?_⟩
    have nR2H := freeS e2 nR2
    have neR : R2 ≠ R := fun z => by rw [z, hR2] at nR2; exact nomatch nR2
    refine lc_list (xs := ps) (fun j H' => Same H2 H' ∧ ∃ qs, H' R2 = some (.lst qs) ∧ EdgesAt H' qs (tightN hi p i (es.take j))) ⟨same_new nR2, [], upd_same, .nil⟩ (fun j H' _ h => .of (h.1 _ _ (e2 _ _ hge))) (fun j x H3 hx h => ?_) (fun H3 h => ?_)
    · obtain ⟨e3, qs, hR3, hqs⟩ := h
      obtain ⟨ej, hej, t, rfl, ht⟩ := paired_get hps hx
      have hem := List.mem_of_getElem? hej
      have hb := W.behind es (List.mem_of_getElem? hes) ej hem
      have hs := sm es (List.mem_of_getElem? hes) ej hem
      have e23 := e2.trans e3
      have ht3 := e23 _ _ ht
      have hp3 := e23 _ _ hp
      have lqs := Paired.length hqs
      have lt : (tightN hi p i (es.take j)).length ≤ es.length := by
        unfold tightN
        refine Nat.le_trans (List.length_filter_le _ _) ?_
        rw [List.length_take]; omega
      refine ⟨rfl, .ref t, rfl, .ref h', rfl, .ref pr, rfl, .int (i : Nat), rfl, pr, _, (i : Nat), .int (prc p i), rfl, rfl, .of hp3, atI_nat (pat i hil2), .ref pr, rfl, .ref t, rfl, t, _, ((2 : Nat) : Int), .int (ej.2.2 : Nat), rfl, rfl, .of ht3, atI_nat rfl, pr, _, (ej.2.2 : Nat), .int (prc p ej.2.2), rfl, rfl, .of hp3, atI_nat (pat _ hb), ?_⟩
      refine ⟨t, h', ej, hi, prc p i, prc p ej.2.2, rfl, ht3, e23 _ _ hh, hs, rfl, _, rfl, ?_⟩
      have hex : hi.2 * ej.2.1 - hi.1 - (prc p ej.2.2 - prc p i) = excE hi p i ej := rfl
      rw [hex, tightN_take hej]
      by_cases z : excE hi p i ej = 0
      · rw [z, decide_eq_true rfl, if_pos rfl]
        refine iteT ⟨.ref t, rfl, qs, hR3, by omega, fun b o y => ?_, qs ++ [.ref t], upd_same, ?_⟩
        · rw [upd_ne (ne_of_none y nR2)]; exact e3 _ _ y
        · have kT : KeepT H3 (upd H3 R2 (.lst (qs ++ [V.ref t]))) := .upd hR3 fun _ z => nomatch z
          exact Paired.snoc (EdgesAt.keep kT hqs) ⟨t, rfl, kT _ _ ht3⟩
      · rw [decide_eq_false (show ¬ V.int (excE hi p i ej) = V.int 0 from fun c => z (V.int.inj c)), if_neg z, List.append_nil]
        exact iteF ⟨e3, qs, hR3, hqs⟩
    · obtain ⟨e3, qs, hR3, hqs⟩ := h
      rw [lps, List.take_length] at hqs
      have hR4 := e3 _ _ hR2
      refine ⟨rs, hR4, by omega, fun b o z => ?_, rs ++ [.ref R2], upd_same, fun u hu => ?_, ?_⟩
      · rw [upd_ne (ne_of_none z nR)]
        exact e3 _ _ (e2 _ _ z)
      · rcases List.mem_append.mp hu with hu | hu
        · exact nrs u hu
        · rw [List.mem_singleton.mp hu]
          exact fun z => neR (V.ref.inj z)
      · rw [List.range_succ, List.map_append]
        refine Paired.snoc ((hrs2.keep e3).upd' nrs hR4) ⟨R2, qs, rfl, ?_, ?_⟩
        · rw [upd_ne neR]; exact hR3
        · have hgd : G.getD i [] = es := by rw [List.getD_eq_getElem?_getD, hes]; rfl
          show EdgesAt _ qs (tightN hi p i (G.getD i []))
          rw [hgd]
          exact EdgesAt.keep (.upd hR4 fun _ z => nomatch z) hqs
end
end Sg
set_option Elab.async false
set_option linter.all false
set_option maxRecDepth 100000
set_option maxHeartbeats 4000000
namespace Sg
open PySem PySem.Spec PyProof.Rows L2 StX
structure GoodWt (n : Nat) (wt : List Int) : Prop where
  len : wt.length = n
  items : ∀ x ∈ wt, 0 ≤ x ∧ x ≤ 20
  some_ : 0 < wt.sum
/-- what a choice is worth -/
def worthN (wt : List Int) (c : Int) : Int := if c = -1 then 0 else wt.getD c.toNat 0
section
variable {P : Program} {w : World} {K : PySem.W.Frag} {mg : Str → Option Value} {base : Heap}
/-! ### worth_of -/
def spWorth (K : PySem.W.Frag) : Sp := fun vs H Q _ => ∃ (b : Addr) (wt : List Int) (c : Int), vs = [.ref b, .int c] ∧ SqT K H b (wt.map V.int) ∧ -1 ≤ c ∧ c < wt.length ∧ Q (.int (worthN wt c)) H
theorem ok_worth_of {f : Addr} {fd : FuncData} {k : Nat} (F : Fun K "worth_of" "worth_of" s_worth_of f fd) (hN : ∃ t, mg "NOTHING" = some (.int (-1) t)) :
    FnOk P w K mg base CX0 (k + 1) f fd ["worths", "choice"] (spWorth K) := by
  obtain ⟨tN, nN⟩ := hN
  refine F.ok sc_worth_of (fun vs H Q E h => ?_) (fun cdv A outer s H vs Q E hr h => ?_)
  · obtain ⟨b, wt, c, rfl, _⟩ := h; rfl
  · obtain ⟨b, wt, c, rfl, hS, c1, c2, q⟩ := h
    refine ⟨_, pss_one (ps_ret (pe_ifExp (pt_cmpR op_eq (pv 1) (pe_glob (v := .int (-1)) (by rfl) nN ⟨_, rfl⟩) (nomark _)) pe_int (pe_ix ix_tup (pv 0) (pv 1) (fun _ _ => rfl)))), ?_⟩
    refine ⟨.int c, rfl, rfl, _, rfl, ite2 (fun e => ?_) (fun e => ?_)⟩
    · have hc : c = -1 := V.int.inj (of_decide_eq_true e)
      unfold worthN at q
      rw [if_pos hc] at q
      exact q
    · have hc : c ≠ -1 := fun z => e (by rw [z]; exact decide_eq_true rfl)
      unfold worthN at q
      rw [if_neg hc] at q
      obtain ⟨j, rfl⟩ : ∃ j : Nat, c = j := ⟨c.toNat, by omega⟩
      have hj : j < wt.length := by omega
      rw [Int.toNat_natCast, List.getD_eq_getElem?_getD, List.getElem?_eq_getElem hj] at q
      refine ⟨.ref b, rfl, .int (j : Nat), rfl, b, _, (j : Nat), .int wt[j], rfl, rfl, hS, atI_nat ?_, q⟩
      rw [List.getElem?_map, List.getElem?_eq_getElem hj]
      rfl
/-! ### _is_worths, require_worths -/
def spIsWt (K : PySem.W.Frag) (C : Addr) : Sp := fun vs H Q _ => ∃ (a b : Addr) (ws : List (List Int)) (wt : List Int), vs = [.ref a, .ref b] ∧ LineAt K C H a ws ∧ SqT K H b (wt.map V.int) ∧ GoodWt ws.length wt ∧ ∀ H', Same H H' → Q (.bl true) H'
theorem ok_is_worths {f f1 C : Addr} {fd fd1 : FuncData} {k : Nat} (F : Fun K "_is_worths" "_is_worths" s_is_worths f fd) (M : Meths2 P w K mg base k C) (hN : ∃ t, mg "MOST_WORTH" = some (.int 20 t))
    (G1 : FnOk P w K mg base CX0 (k + 2) f1 fd1 ["thing", "least", "most"] spIsBetween) (kp1 : PySem.W.keepIn K (.ref f1) = true) (b1 : Binds K fd1 ["thing", "least", "most"] []) (g1 : mg "is_between" = some (.ref f1))
    (m1 : mg "isinstance" = none) (m2 : mg "tuple" = none) (m3 : mg "len" = none) (m4 : mg "all" = none) (m5 : mg "sum" = none) : FnOk P w K mg base CX0 (k + 3) f fd ["line", "thing"] (spIsWt K C) := by
  obtain ⟨tN, nN⟩ := hN
  refine F.ok sc_is_worths (fun vs H Q E h => ?_) (fun cdv A outer s H vs Q E hr h => ?_)
  · obtain ⟨a, b, ws, wt, rfl, _⟩ := h; rfl
  · obtain ⟨a, b, ws, wt, rfl, hL, hS, hg, q⟩ := h
    refine ⟨_, pss_cons (ps_if (PW.pt (pw_or (pt_not (pt_val (pe_callB call_isi (by rfl) m1 (by decide +kernel) (pa_cons (pv 1) (pa_cons (pe_bltn (v := .ty "tuple") (by rfl) m2 (by decide +kernel) rfl) pa_nil)))))
        (pw_or1 (pt_cmpR op_ne (pe_callB call_len_seq (by rfl) m3 PySem.boot_len (pa_cons (pv 1) pa_nil)) (pe_callB (cLenK (K := K) M.m rfl hr) (by rfl) m3 PySem.boot_len (pa_cons (pv 0) pa_nil)) (nomark _))))) (pss_one (ps_ret pe_bl)) pss_nil)
      (pss_one (ps_ret (pe_and (pe_callB (cr_all rfl) (by rfl) m4 (by decide +kernel) (pa_cons
          (pe_lc (own := [("worth", 2)]) (g := gName 2) (tt := tYes) rfl sc_is_worths.nd (pi_tup (pv 1)) (blkOk_by (N := ["line", "thing", "worth"]) (sc := defScope s_is_worths) (by decide +kernel))
            (fun _ _ _ _ _ => pg_name (i := 2) sc_is_worths.nd rfl (Or.inl rfl)) (fun _ _ _ _ _ => pts_nil)
            (fun _ _ _ _ _ => pe_call G1 hr (by rfl) g1 kp1 b1 .nil pass0 (pa_cons (pv 2) (pa_cons pe_int (pa_cons (pe_glob (v := .int 20) (by rfl) nN ⟨_, rfl⟩) pa_nil))))) pa_nil))
        (pe_one (pe_cmpR op_gt (pe_callB (cr_sumT rfl) (by rfl) m5 (by decide +kernel) (pa_cons (pv 1) pa_nil)) pe_int (nomark _)))))), ?_⟩
    have ll : (wt.map V.int).length = wt.length := List.length_map _
    have l1 := hg.len
    have few := hL.good.few
    refine ⟨.ref b, rfl, .ref b, .ty "tuple", _, _, true, rfl, .ty _, tyT hS, kit_ty (by decide +kernel), true, rfl, iteF ?_⟩
    refine ⟨.ref b, rfl, b, _, rfl, .inr hS, .ref a, rfl, a, ws, rfl, hL, rfl, ?_⟩
    rw [show (!decide (V.int (((wt.map V.int).length : Nat) : Int) = V.int ((ws.length : Nat) : Int))) = false from by rw [ll, l1, decide_eq_true rfl]; rfl]
    refine ⟨_, rfl, iteF ?_⟩
    refine ⟨.ref b, rfl, b, rfl, ⟨_, hS⟩, fun D hD => ?_⟩
    refine lc_tup (xs := wt.map V.int) (fun i H' => Same H H' ∧ H' D = some (.lst ((List.replicate i true).map V.bl))) ⟨same_new hD, upd_same⟩ (fun i H' _ h => Same.tup h.1 hS) (fun i x H' hx h => ?_) (fun H' h => ?_)
    · rw [List.getElem?_map] at hx
      obtain ⟨z, hz, rfl⟩ := Option.map_eq_some_iff.mp hx
      have hi := (List.getElem?_eq_some_iff.mp hz).1
      obtain ⟨z1, z2⟩ := hg.items z (List.mem_of_getElem? hz)
      refine ⟨rfl, .int z, rfl, z, 0, 20, rfl, ?_⟩
      rw [decide_eq_true (show (0 : Int) ≤ z by omega), decide_eq_true (show z ≤ 20 by omega)]
      refine ⟨_, h.2, ?_, fun y o e => ?_, ?_⟩
      · rw [List.length_map, List.length_replicate]
        exact small1000 (by omega)
      · rw [upd_ne (ne_of_none e hD)]
        exact h.1 _ _ e
      · rw [upd_same, List.replicate_succ', List.map_append]
        rfl
    · have hall : (List.replicate (wt.map V.int).length true).all id = true := by simp
      refine ⟨D, _, rfl, .of h.2, true, congrArg V.bl hall, iteT ?_⟩
      refine ⟨.ref b, rfl, b, wt, rfl, Same.tup h.1 hS, _, 0, rfl, rfl, ?_⟩
      show Q (V.bl (decide ((0 : Int) < wt.sum))) H'
      rw [decide_eq_true hg.some_]
      exact q H' h.1
def spReqWt (K : PySem.W.Frag) (C : Addr) : Sp := fun vs H Q _ => ∃ (a b : Addr) (ws : List (List Int)) (wt : List Int), vs = [.ref a, .ref b] ∧ LineAt K C H a ws ∧ SqT K H b (wt.map V.int) ∧ GoodWt ws.length wt ∧ ∀ H', Same H H' → Q .non H'
theorem ok_require_worths {f f1 f2 C : Addr} {fd fd1 fd2 : FuncData} {k : Nat} (F : Fun K "require_worths" "require_worths" s_require_worths f fd)
    (G1 : FnOk P w K mg base CX0 k f1 fd1 ["thing"] (spReqLine K C)) (kp1 : PySem.W.keepIn K (.ref f1) = true) (b1 : Binds K fd1 ["thing"] []) (g1 : mg "require_line" = some (.ref f1))
    (G2 : FnOk P w K mg base CX0 k f2 fd2 ["line", "thing"] (spIsWt K C)) (kp2 : PySem.W.keepIn K (.ref f2) = true) (b2 : Binds K fd2 ["line", "thing"] []) (g2 : mg "_is_worths" = some (.ref f2)) :
    FnOk P w K mg base CX0 (k + 1) f fd ["line", "thing"] (spReqWt K C) := by
  refine F.ok sc_require_worths (fun vs H Q E h => ?_) (fun cdv A outer s H vs Q E hr h => ?_)
  · obtain ⟨a, b, ws, wt, rfl, _⟩ := h; rfl
  · obtain ⟨a, b, ws, wt, rfl, hL, hS, hg, q⟩ := h
    refine ⟨_, pss_cons (ps_expr (pe_call G1 hr (by rfl) g1 kp1 b1 .nil pass0 (pa_cons (pv 0) pa_nil)))
      (pss_one (ps_if (pt_not (pt_val (pe_call G2 hr (by rfl) g2 kp2 b2 .nil pass0 (pa_cons (pv 0) (pa_cons (pv 1) pa_nil))))) (pss_one ps_never) pss_nil)), ?_⟩
    exact ⟨.ref a, rfl, a, ws, rfl, hL, .ref a, rfl, .ref b, rfl, a, b, ws, wt, rfl, hL, hS, hg, fun H' e => ⟨true, rfl, iteF (q H' e)⟩⟩
end
end Sg
set_option Elab.async false
set_option linter.all false
set_option maxRecDepth 100000
set_option maxHeartbeats 4000000
namespace Sg
open PySem PySem.Spec PyProof.Rows L2 StX
/-! ## the graph of the moves with their worths -/
def wG (wt : List Int) (M : List (List (Int × Nat))) : Gr := M.map fun r => r.map fun c => ((c.1, worthN wt c.1, c.2) : Edge)
theorem chI_inj {a b : Option Nat} (h : chI a = chI b) : a = b := by
  cases a with
  | none => cases b with
    | none => rfl
    | some k => have h : (-1 : Int) = (k : Int) := h; omega
  | some j => cases b with
    | none => have h : (j : Int) = -1 := h; omega
    | some k => have h : (j : Int) = (k : Int) := h; rw [show j = k by omega]
theorem next_empty (ws : List (List Int)) : nextL ws (emptyL ws) none = emptyL ws := by
  unfold nextL emptyL
  refine List.eq_replicate_iff.mpr ⟨by rw [List.length_map, List.length_range], fun r hr => ?_⟩
  obtain ⟨k, _, rfl⟩ := List.mem_map.mp hr
  rw [List.filter_eq_nil_iff]
  intro d _
  unfold nextB rowS
  rw [List.getD_eq_getElem?_getD, List.getElem?_replicate]
  split <;> simp
section
variable {ws : List (List Int)} {R : Nat} {Ls : List Sta} {wt : List Int}
theorem Order.at1 (O : Order ws R Ls) {L : Sta} (h : Rchd ws L) : Ls[idxS Ls L]? = some L := by
  have := List.idxOf_lt_length_iff.mpr (O.all L h)
  unfold idxS
  rw [List.getElem?_eq_getElem this, List.getElem_idxOf]
theorem Order.lt1 (O : Order ws R Ls) {L : Sta} (h : Rchd ws L) : idxS Ls L < Ls.length := List.idxOf_lt_length_iff.mpr (O.all L h)
theorem wG_at {v : Nat} {es : List Edge} : (wG wt (numG ws Ls))[v]? = some es ↔ ∃ L, Ls[v]? = some L ∧ es = (chs ws L).map fun c => ((chI c, worthN wt (chI c), idxS Ls (nextL ws L c)) : Edge) := by
  unfold wG numG
  rw [List.getElem?_map, List.getElem?_map]
  constructor
  · intro h
    obtain ⟨r, h1, rfl⟩ := Option.map_eq_some_iff.mp h
    obtain ⟨L, h2, rfl⟩ := Option.map_eq_some_iff.mp h1
    exact ⟨L, h2, by unfold numRow; rw [List.map_map]; rfl⟩
  · rintro ⟨L, h, rfl⟩
    rw [h]
    show some _ = some _
    congr 1
    unfold numRow
    show List.map _ (List.map _ _) = _
    rw [List.map_map]; rfl
theorem wG_mem {es : List Edge} (h : es ∈ wG wt (numG ws Ls)) : ∃ L ∈ Ls, es = (chs ws L).map fun c => ((chI c, worthN wt (chI c), idxS Ls (nextL ws L c)) : Edge) := by
  obtain ⟨v, hv⟩ := List.mem_iff_getElem?.mp h
  obtain ⟨L, h1, h2⟩ := wG_at.mp hv
  exact ⟨L, List.mem_of_getElem? h1, h2⟩
theorem wG_len : (wG wt (numG ws Ls)).length = Ls.length := by unfold wG numG; rw [List.length_map, List.length_map]
theorem wG_wf (O : Order ws R Ls) : WfG (wG wt (numG ws Ls)) := ⟨fun es hes e he => by
  obtain ⟨L, hL, rfl⟩ := wG_mem hes
  obtain ⟨c, hc, rfl⟩ := List.mem_map.mp he
  rw [wG_len]
  exact O.lt1 ((O.rch L hL).next (chs_can.mp hc))⟩
theorem wG_det : DetG (wG wt (numG ws Ls)) := fun es hes e he f hf h => by
  obtain ⟨L, hL, rfl⟩ := wG_mem hes
  obtain ⟨c, hc, rfl⟩ := List.mem_map.mp he
  obtain ⟨d, hd, rfl⟩ := List.mem_map.mp hf
  rw [chI_inj h]
theorem wG_gain : GainG (worthN wt) (wG wt (numG ws Ls)) := fun es hes e he => by
  obtain ⟨L, hL, rfl⟩ := wG_mem hes
  obtain ⟨c, hc, rfl⟩ := List.mem_map.mp he
  rfl
theorem worthN_bd {n : Nat} (hw : GoodWt n wt) (c : Int) : 0 ≤ worthN wt c ∧ worthN wt c ≤ 20 := by
  unfold worthN
  split
  · exact ⟨by decide, by decide⟩
  · rw [List.getD_eq_getElem?_getD]
    cases h : wt[c.toNat]? with
    | none => exact ⟨by decide, by decide⟩
    | some x => exact hw.items x (List.mem_of_getElem? h)
theorem wG_small {n : Nat} (hw : GoodWt n wt) : SmallG (wG wt (numG ws Ls)) := fun es hes e he => by
  obtain ⟨L, hL, rfl⟩ := wG_mem hes
  obtain ⟨c, hc, rfl⟩ := List.mem_map.mp he
  have := worthN_bd hw (chI c)
  show (worthN wt (chI c)).natAbs ≤ _
  omega
theorem wG_few (O : Order ws R Ls) (h3 : ws.length ≤ 3) : FewG (wG wt (numG ws Ls)) := ⟨by rw [wG_len]; exact Nat.le_trans O.few (by decide), fun es hes => by
  obtain ⟨L, hL, rfl⟩ := wG_mem hes
  have := chs_len (ws := ws) (L := L)
  rw [List.length_map]
  omega⟩
theorem wG_zero (O : Order ws R Ls) : 0 < (wG wt (numG ws Ls)).length ∧ WkL (wG wt (numG ws Ls)) 0 0 [-1] := by
  have h0 := O.zero
  have hl := (List.getElem?_eq_some_iff.mp h0).1
  refine ⟨by rw [wG_len]; exact hl, ?_⟩
  have hi : idxS Ls (emptyL ws) = 0 := by
    obtain ⟨_, e⟩ := List.getElem?_eq_some_iff.mp h0
    rw [← e]
    exact O.nd.idxOf_getElem 0 hl
  refine .cons (e := (-1, worthN wt (-1), 0)) (wG_at.mpr ⟨_, h0, rfl⟩) (List.mem_map.mpr ⟨none, chs_can.mpr True.intro, ?_⟩) .nil
  show (chI none, worthN wt (chI none), idxS Ls (nextL ws (emptyL ws) none)) = _
  rw [next_empty, hi]; rfl
end
/-- the greatest mean of all cycles, and the shortest cycle that has it, of several the smallest -/
structure BestG (G : Gr) (gn : Int → Int) (hi : Int × Int) (ls : List Int) : Prop where
  low : LowF hi
  cyc : ∃ v, v < G.length ∧ WkL G v v ls
  ne : ls ≠ []
  mean : hi.2 * sumL gn ls = (ls.length : Nat) * hi.1
  top : ∀ v rs, WkL G v v rs → hi.2 * sumL gn rs ≤ (rs.length : Nat) * hi.1
  min : ∀ v rs, v < G.length → WkL G v v rs → rs ≠ [] → hi.2 * sumL gn rs = (rs.length : Nat) * hi.1 → slexF rs ls
  len : ls.length ≤ G.length
theorem bestG_of {G : Gr} {gn : Int → Int} {hi : Int × Int} {p : List Int} {ls : List Int} (hg : GainG gn G) (C : Cert hi G p) (lf : LowF hi) (hm : MinCyc (tightG hi p G) ls) (hl : ls.length ≤ (tightG hi p G).length) : BestG G gn hi ls := by
  obtain ⟨⟨v, hv, hw⟩, h0, hmin⟩ := hm
  obtain ⟨h1, h2⟩ := (tight_cyc hg C).mp hw
  rw [tight_len] at hv hl
  refine ⟨lf, ⟨v, hv, h1⟩, h0, h2, fun v rs hr => ?_, fun v rs hv hr hr0 he => ?_, hl⟩
  · have := slack_le hg C hr
    unfold slackL at this
    omega
  · exact hmin v rs (by rw [tight_len]; exact hv) ((tight_cyc hg C).mpr ⟨hr, he⟩) hr0
section
variable {P : Program} {w : World} {K : PySem.W.Frag} {mg : Str → Option Value} {base : Heap}
/-! ### weighted -/
def spWeighted (K : PySem.W.Frag) : Sp := fun vs H Q _ => ∃ (l b : Addr) (us : List V) (M : List (List (Int × Nat))) (wt : List Int), vs = [.ref l, .ref b] ∧ H l = some (.lst us) ∧ NumAt H us M ∧ SqT K H b (wt.map V.int) ∧ (∀ r ∈ M, ∀ c ∈ r, -1 ≤ c.1 ∧ c.1 < wt.length) ∧ M.length ≤ 100000 ∧ (∀ r ∈ M, r.length ≤ 8) ∧
  ∀ H' g us', Same H H' → H' g = some (.lst us') → GrAt H' us' (wG wt M) → Q (.ref g) H'
abbrev wgNm : List Str := ["moves", "worths", "choice", "behind", "open_moves"]
abbrev wgSc : Scope := { kind := ScopeKind.function, names := [(".0", NameKind.local), ("open_moves", NameKind.local), ("worths", NameKind.cell)], isGenerator := false, isCoroutine := false }
theorem ok_weighted {f f1 : Addr} {fd fd1 : FuncData} {k : Nat} (F : Fun K "weighted" "weighted" s_weighted f fd)
    (G1 : FnOk P w K mg base CX0 k f1 fd1 ["worths", "choice"] (spWorth K)) (kp1 : PySem.W.keepIn K (.ref f1) = true) (b1 : Binds K fd1 ["worths", "choice"] []) (g1 : mg "worth_of" = some (.ref f1)) : FnOk P w K mg base CX0 (k + 1) f fd ["moves", "worths"] (spWeighted K) := by
  refine F.ok sc_weighted (fun vs H Q E h => ?_) (fun cdv A outer s H vs Q E hr h => ?_)
  · obtain ⟨l, b, us, M, wt, rfl, _⟩ := h; rfl
  · obtain ⟨l, b, us, M, wt, rfl, hl, hM, hb, hc, few, few8, q⟩ := h
    refine ⟨_, pss_one (ps_ret (pe_lc (own := [("open_moves", 4)]) (g := gName 4) (tt := tYes) rfl sc_weighted.nd (pi_list (pv 0)) (blkOk_by (N := wgNm) (sc := defScope s_weighted) (by decide +kernel))
      (fun _ _ _ _ _ => pg_name (i := 4) sc_weighted.nd rfl (by first | exact .inl rfl | exact .inr rfl)) (fun _ _ _ _ _ => pts_nil)
      (fun _ _ _ _ _ => pe_lc (own := [("choice", 2), ("behind", 3)]) (g := gTup K 2 (gCons (gName 2) (gCons (gName 3) gNil))) (tt := tYes) rfl sc_weighted.nd (pi_listK (K := K) rfl (pv 4)) (blkOk_by (N := wgNm) (sc := wgSc) (by decide +kernel))
        (fun _ _ _ _ _ => pg_tup rfl (pgs_cons (pg_name (i := 2) sc_weighted.nd rfl (by first | exact .inl rfl | exact .inr rfl)) (pgs_cons (pg_name (i := 3) sc_weighted.nd rfl (by first | exact .inl rfl | exact .inr rfl)) pgs_nil))) (fun _ _ _ _ _ => pts_nil)
        (fun _ _ _ _ _ => pe_tup (pa_cons (pv 2) (pa_cons (pe_call G1 hr (by rfl) g1 kp1 b1 .nil pass0 (pa_cons (pv 1) (pa_cons (pv 2) pa_nil))) (pa_cons (pv 3) pa_nil))))))), ?_⟩
    have big : 10000000 ≤ sizeLine := by rw [sizeLine_eq]; decide
    have lM : us.length = M.length := Paired.length hM
    refine ⟨.ref l, rfl, l, rfl, ⟨_, .of hl⟩, fun R nR => ?_⟩
    refine lc_list (xs := us) (fun i H' => Same H H' ∧ ∃ rs, H' R = some (.lst rs) ∧ (∀ u ∈ rs, u ≠ V.ref R) ∧ GrAt H' rs (wG wt (M.take i))) ⟨same_new nR, [], upd_same, (fun u hu => nomatch hu), .nil⟩ (fun i H' _ h => .of (h.1 _ _ hl)) (fun i x H' hx h => ?_) (fun H' h => ?_)
    rotate_left
    · obtain ⟨e, rs, hR, _, hrs⟩ := h
      rw [lM, List.take_length] at hrs
      exact q H' R rs e hR hrs
    obtain ⟨e, rs, hR, nrs, hrs⟩ := h
    obtain ⟨go, ps, r, rfl, hr2, hgo, hps⟩ := hM.at hx
    have hi := (List.getElem?_eq_some_iff.mp hr2).1
    have lrs : rs.length = i := by
      have := Paired.length hrs
      unfold wG at this
      rw [List.length_map, List.length_take] at this
      omega
    have few1 := few8 r (List.mem_of_getElem? hr2)
    have lps := Paired.length hps
    refine ⟨rfl, .ref go, rfl, go, rfl, ⟨_, .of (e _ _ hgo)⟩, fun R2 nR2 => ?_⟩
    have nR2H := freeS e nR2
    have neR : R2 ≠ R := fun z => by rw [z, hR] at nR2; exact nomatch nR2
    refine lc_list (xs := ps) (fun j H3 => Same H' H3 ∧ ∃ qs, H3 R2 = some (.lst qs) ∧ EdgesAt H3 qs ((r.take j).map fun c => ((c.1, worthN wt c.1, c.2) : Edge))) ⟨same_new nR2, [], upd_same, .nil⟩ (fun j H3 _ h => .of (h.1 _ _ (e _ _ hgo))) (fun j x H3 hx h => ?_) (fun H3 h => ?_)
    · obtain ⟨e3, qs, hR3, hqs⟩ := h
      obtain ⟨t, c, rfl, hc1, ht⟩ := hps.at hx
      obtain ⟨c1, c2⟩ := hc r (List.mem_of_getElem? hr2) c (List.mem_of_getElem? hc1)
      have e13 := e.trans e3
      have lqs := Paired.length hqs
      rw [List.length_map, List.length_take] at lqs
      refine ⟨t, _, rfl, .of (e13 _ _ ht), rfl, _, _, rfl, _, _, rfl, rfl, rfl, ?_⟩
      refine ⟨.int c.1, rfl, .ref b, rfl, .int c.1, rfl, b, wt, c.1, rfl, Same.tup e13 hb, c1, c2, .int (c.2 : Nat), rfl, by show 3 ≤ sizeLine; omega, fun u nu => ?_⟩
      have eu := same_new (o := .tup [V.int c.1, V.int (worthN wt c.1), V.int (c.2 : Nat)]) nu
      have hu : (upd H3 u (.tup [V.int c.1, V.int (worthN wt c.1), V.int (c.2 : Nat)])) u = some (.tup [V.int c.1, V.int (worthN wt c.1), V.int (c.2 : Nat)]) := upd_same
      have hR4 := eu _ _ hR3
      have kT := KeepT.upd (o' := .lst (qs ++ [.ref u])) hR4 fun _ z => nomatch z
      refine ⟨qs, hR4, by omega, fun b o z => ?_, qs ++ [.ref u], upd_same, ?_⟩
      · rw [upd_ne (ne_of_none z nR2)]
        exact eu _ _ (e3 _ _ z)
      · rw [List.take_add_one, hc1, List.map_append]
        exact Paired.snoc (EdgesAt.keep kT (EdgesAt.keep (.of eu) hqs)) ⟨u, rfl, kT _ _ hu⟩
    · obtain ⟨e3, qs, hR3, hqs⟩ := h
      rw [lps, List.take_length] at hqs
      have hR4 := e3 _ _ hR
      refine ⟨rs, hR4, by omega, fun b o z => ?_, rs ++ [.ref R2], upd_same, fun u hu => ?_, ?_⟩
      · rw [upd_ne (ne_of_none z nR)]
        exact e3 _ _ (e _ _ z)
      · rcases List.mem_append.mp hu with hu | hu
        · exact nrs u hu
        · rw [List.mem_singleton.mp hu]
          exact fun z => neR (V.ref.inj z)
      · unfold wG at hrs ⊢
        rw [List.take_add_one, hr2, List.map_append]
        refine Paired.snoc ((GrAt.keep e3 hrs).upd' nrs hR4) ⟨R2, qs, rfl, ?_, ?_⟩
        · rw [upd_ne neR]; exact hR3
        · exact EdgesAt.keep (.upd hR4 fun _ z => nomatch z) hqs
end
end Sg
set_option Elab.async false
set_option linter.all false
set_option maxRecDepth 100000
set_option maxHeartbeats 4000000
namespace Sg
open PySem PySem.Spec PyProof.Rows L2 StX
section
variable {P : Program} {w : World} {K : PySem.W.Frag} {mg : Str → Option Value} {base : Heap}
/-! ### _graph, best -/
def spGraphOf (K : PySem.W.Frag) (C : Addr) : Sp := fun vs H Q _ => ∃ (a b : Addr) (ws : List (List Int)) (R : Nat) (wt : List Int), vs = [.ref a, .ref b] ∧ LineAt K C H a ws ∧ Reach ws R ∧ NearR ws.length R ∧ SqT K H b (wt.map V.int) ∧ GoodWt ws.length wt ∧
  ∀ H' g us Ls, Same H H' → Order ws R Ls → H' g = some (.lst us) → GrAt H' us (wG wt (numG ws Ls)) → Q (.ref g) H'
theorem ok_graph {f f1 f2 f3 f4 C : Addr} {fd fd1 fd2 fd3 fd4 : FuncData} {k : Nat} {ds : List Value} (F : Fun K "_graph" "_graph" s_graph f fd)
    (G1 : FnOk P w K mg base CX0 k f1 fd1 ["line", "thing"] (spReqWt K C)) (kp1 : PySem.W.keepIn K (.ref f1) = true) (b1 : Binds K fd1 ["line", "thing"] []) (g1 : mg "require_worths" = some (.ref f1))
    (G2 : FnOk P w K mg base CX0 k f2 fd2 ["line", "of_one", "of_several"] (spReqNear K C)) (kp2 : PySem.W.keepIn K (.ref f2) = true) (b2 : Vals [.int 8, .int 5] ds ∧ Binds K fd2 ["line", "of_one", "of_several"] ds) (g2 : mg "require_near" = some (.ref f2))
    (G3 : FnOk P w K mg base CX0 k f3 fd3 ["moves", "worths"] (spWeighted K)) (kp3 : PySem.W.keepIn K (.ref f3) = true) (b3 : Binds K fd3 ["moves", "worths"] []) (g3 : mg "weighted" = some (.ref f3))
    (G4 : FnOk P w K mg base CX0 k f4 fd4 ["line"] (spNumbered K C)) (kp4 : PySem.W.keepIn K (.ref f4) = true) (b4 : Binds K fd4 ["line"] []) (g4 : mg "numbered_moves" = some (.ref f4)) :
    FnOk P w K mg base CX0 (k + 1) f fd ["line", "worths"] (spGraphOf K C) := by
  refine F.ok sc_graph (fun vs H Q E h => ?_) (fun cdv A outer s H vs Q E hr h => ?_)
  · obtain ⟨a, b, ws, R, wt, rfl, _⟩ := h; rfl
  · obtain ⟨a, b, ws, R, wt, rfl, hL, hR, hN, hb, hw, q⟩ := h
    refine ⟨_, pss_cons (ps_expr (pe_call G1 hr (by rfl) g1 kp1 b1 .nil pass0 (pa_cons (pv 0) (pa_cons (pv 1) pa_nil))))
      (pss_cons (ps_expr (pe_call G2 hr (by rfl) g2 kp2 b2.2 b2.1 pass0 (pa_cons (pv 0) pa_nil)))
      (pss_one (ps_ret (pe_call G3 hr (by rfl) g3 kp3 b3 .nil pass0 (pa_cons (pe_call G4 hr (by rfl) g4 kp4 b4 .nil pass0 (pa_cons (pv 0) pa_nil)) (pa_cons (pv 1) pa_nil)))))), ?_⟩
    have few := hL.good.few
    have lw := hw.len
    refine ⟨.ref a, rfl, .ref b, rfl, a, b, ws, wt, rfl, hL, hb, hw, fun H1 e1 => ?_⟩
    refine ⟨.ref a, rfl, a, ws, R, rfl, hL.stay (.of e1), hR, hN, ?_⟩
    refine ⟨.ref a, rfl, a, ws, R, rfl, hL.stay (.of e1), hR.rea, hN, fun H2 l us Ls e2 O hl hM => ?_⟩
    refine ⟨.ref b, rfl, l, b, us, numG ws Ls, wt, rfl, hl, hM, Same.tup e2 (Same.tup e1 hb), fun r hr c hc => ?_, ?_, fun r hr => ?_, fun H3 g us' e3 hg hG => q H3 g us' Ls (e1.trans (e2.trans e3)) O hg hG⟩
    · obtain ⟨L, hL', rfl⟩ := List.mem_map.mp hr
      obtain ⟨o, ho, rfl⟩ := List.mem_map.mp hc
      show -1 ≤ chI o ∧ chI o < _
      cases o with
      | none => exact ⟨by decide, by show (-1 : Int) < _; omega⟩
      | some k =>
        have hk : k ∈ openL ws L := chs_can.mp ho
        have := List.mem_range.mp (List.mem_filter.mp hk).1
        exact ⟨by show (-1 : Int) ≤ (k : Nat); omega, by show ((k : Nat) : Int) < _; omega⟩
    · unfold numG; rw [List.length_map]; exact Nat.le_trans O.few (by decide)
    · obtain ⟨L, hL', rfl⟩ := List.mem_map.mp hr
      have := chs_len (ws := ws) (L := L)
      unfold numRow
      rw [List.length_map]
      omega
def spBest (K : PySem.W.Frag) (C : Addr) : Sp := fun vs H Q _ => ∃ (a b : Addr) (ws : List (List Int)) (R : Nat) (wt : List Int), vs = [.ref a, .ref b] ∧ LineAt K C H a ws ∧ Reach ws R ∧ NearR ws.length R ∧ SqT K H b (wt.map V.int) ∧ GoodWt ws.length wt ∧
  ∀ H' t h l hi (ls : List Int) Ls, Same H H' → H' t = some (.tup [.ref h, .ref l]) → H' h = some (.tup [.int hi.1, .int hi.2]) → H' l = some (.tup (ls.map V.int)) → Order ws R Ls → BestG (wG wt (numG ws Ls)) (worthN wt) hi ls → Q (.ref t) H'
theorem ok_best {f f1 f2 f3 f4 C : Addr} {fd fd1 fd2 fd3 fd4 : FuncData} {k : Nat} (F : Fun K "best" "best" s_best f fd)
    (G1 : FnOk P w K mg base CX0 k f1 fd1 ["line", "worths"] (spGraphOf K C)) (kp1 : PySem.W.keepIn K (.ref f1) = true) (b1 : Binds K fd1 ["line", "worths"] []) (g1 : mg "_graph" = some (.ref f1))
    (G2 : FnOk P w K mg base CX0 k f2 fd2 ["graph"] spGreatest) (kp2 : PySem.W.keepIn K (.ref f2) = true) (b2 : Binds K fd2 ["graph"] []) (g2 : mg "greatest_mean" = some (.ref f2))
    (G3 : FnOk P w K mg base CX0 k f3 fd3 ["graph"] spSmallest) (kp3 : PySem.W.keepIn K (.ref f3) = true) (b3 : Binds K fd3 ["graph"] []) (g3 : mg "smallest_cycle" = some (.ref f3))
    (G4 : FnOk P w K mg base CX0 k f4 fd4 ["graph", "highest", "prices"] spTight) (kp4 : PySem.W.keepIn K (.ref f4) = true) (b4 : Binds K fd4 ["graph", "highest", "prices"] []) (g4 : mg "tight_part" = some (.ref f4)) :
    FnOk P w K mg base CX0 (k + 1) f fd ["line", "worths"] (spBest K C) := by
  refine F.ok sc_best (fun vs H Q E h => ?_) (fun cdv A outer s H vs Q E hr h => ?_)
  · obtain ⟨a, b, ws, R, wt, rfl, _⟩ := h; rfl
  · obtain ⟨a, b, ws, R, wt, rfl, hL, hR, hN, hb, hw, q⟩ := h
    refine ⟨_, pss_cons (ps_set (i := 2) sc_best.nd rfl (.inl rfl) (pe_call G1 hr (by rfl) g1 kp1 b1 .nil pass0 (pa_cons (pv 0) (pa_cons (pv 1) pa_nil))))
      (pss_cons (ps_asg (pe_call G2 hr (by rfl) g2 kp2 b2 .nil pass0 (pa_cons (pv 2) pa_nil)) (pg_tup rfl (pgs_cons (pg_name (i := 3) sc_best.nd rfl (.inl rfl)) (pgs_cons (pg_name (i := 4) sc_best.nd rfl (.inl rfl)) pgs_nil))))
      (pss_one (ps_ret (pe_tup (pa_cons (pv 3) (pa_cons (pe_call G3 hr (by rfl) g3 kp3 b3 .nil pass0 (pa_cons (pe_call G4 hr (by rfl) g4 kp4 b4 .nil pass0 (pa_cons (pv 2) (pa_cons (pv 3) (pa_cons (pv 4) pa_nil)))) pa_nil)) pa_nil)))))), ?_⟩
    have few := hL.good.few
    refine ⟨.ref a, rfl, .ref b, rfl, a, b, ws, R, wt, rfl, hL, hR, hN, hb, hw, fun H1 g us Ls e1 O hg hG => ?_⟩
    have W := wG_wf (wt := wt) O
    have D := wG_det (ws := ws) (Ls := Ls) (wt := wt)
    have gn := wG_gain (ws := ws) (Ls := Ls) (wt := wt)
    have sm := wG_small (ws := ws) (Ls := Ls) hw
    have N := wG_few (wt := wt) O few
    obtain ⟨z0, z1⟩ := wG_zero (wt := wt) O
    generalize hGe : wG wt (numG ws Ls) = G at hG W D gn sm N z0 z1
    have nN := N.nodes
    have wz := z1.wlk gn
    refine ⟨.ref g, rfl, g, us, G, rfl, hg, hG, W, sm, by omega, ⟨0, _, _, wz, by show 1 ≤ 1; decide, ?_⟩, fun H2 t h pr hi p e2 ht hh hp lp ct nn lf hm => ?_⟩
    · show 0 ≤ worthN wt (-1) + 0
      have := (worthN_bd hw (-1)).1
      omega
    refine ⟨t, _, rfl, .of ht, rfl, _, _, rfl, _, _, rfl, rfl, ?_⟩
    have e12 := e1.trans e2
    refine ⟨.ref h, rfl, .ref g, rfl, .ref h, rfl, .ref pr, rfl, g, h, pr, us, G, hi, p, rfl, e2 _ _ hg, hG.keep e2, hh, hp, lp, W, sm, N, fun H3 g' us' e3 hg' hG' => ?_⟩
    have hcy : ∃ v rs, v < (tightG hi p G).length ∧ WkL (tightG hi p G) v v rs ∧ rs ≠ [] := by
      obtain ⟨v, s, m, wk, m1, he⟩ := hm
      obtain ⟨ls, h1, h2, h3⟩ := wlk_l gn wk
      have hne : ls ≠ [] := fun z => by rw [z] at h3; rw [h3] at m1; exact absurd m1 (by decide)
      have hv : v < G.length := by
        cases h1 with
        | nil => exact absurd rfl hne
        | cons a _ _ => exact (List.getElem?_eq_some_iff.mp a).1
      exact ⟨v, ls, by rw [tight_len]; exact hv, (tight_cyc gn ct).mpr ⟨h1, by unfold sumL; rw [← h2, ← h3]; exact he⟩, hne⟩
    refine ⟨g', us', tightG hi p G, rfl, hg', hG', tight_wf W, tight_det D, few_tight N, hcy, fun H4 l ls e4 hl hmin hlen => ?_⟩
    refine ⟨by show 2 ≤ sizeLine; rw [sizeLine_eq]; decide, fun x nx => ?_⟩
    have ex := same_new (o := .tup [V.ref h, V.ref l]) nx
    have e34 := e3.trans e4
    refine q _ x h l hi ls Ls ((e12.trans e34).trans ex) upd_same (ex _ _ (e34 _ _ hh)) (ex _ _ hl) O ?_
    rw [hGe]
    exact bestG_of gn ct lf hmin hlen
end
end Sg
set_option Elab.async false
set_option linter.all false
set_option maxRecDepth 100000
set_option maxHeartbeats 4000000
namespace Sg
open PySem PySem.Spec PyProof.Rows L2 StX
/-! ## closed walks through the states are the laps that fit -/
/-- what is chosen in a tick, a lap for ever -/
def atC (cs : List (Option Nat)) (i : Nat) : Option Nat := cs.getD (i % cs.length) none
structure FitsC (ws : List (List Int)) (cs : List (Option Nat)) : Prop where
  kind : ∀ o, some o ∈ cs → o < ws.length
  free : ∀ i j o k, i < j → atC cs i = some o → atC cs j = some k → j - i ∉ barsN (wkS ws o) (wkS ws k)
def wordC (cs : List (Option Nat)) (n : Nat) : List (Option Nat) := (List.range n).map (atC cs)
theorem wordC_len (cs : List (Option Nat)) (n : Nat) : (wordC cs n).length = n := by unfold wordC; rw [List.length_map, List.length_range]
theorem wordC_at {cs : List (Option Nat)} {n i : Nat} (h : i < n) : (wordC cs n)[i]? = some (atC cs i) := by
  unfold wordC; rw [List.getElem?_map, List.getElem?_range h]; rfl
theorem wordC_succ (cs : List (Option Nat)) (n : Nat) : wordC cs (n + 1) = wordC cs n ++ [atC cs n] := by
  unfold wordC; rw [List.range_succ, List.map_append]; rfl
theorem atC_mod (cs : List (Option Nat)) (i m : Nat) : atC cs (i + cs.length * m) = atC cs i := by
  unfold atC
  rw [Nat.add_mul_mod_self_left]
theorem atC_lt {cs : List (Option Nat)} {i : Nat} (h : i < cs.length) : atC cs i = cs[i] := by
  unfold atC
  rw [Nat.mod_eq_of_lt h, List.getD_eq_getElem?_getD, List.getElem?_eq_getElem h]; rfl
theorem atC_mem {cs : List (Option Nat)} (h0 : 0 < cs.length) (i : Nat) : atC cs i ∈ cs := by
  unfold atC
  have := Nat.mod_lt i h0
  rw [List.getD_eq_getElem?_getD, List.getElem?_eq_getElem this]
  exact List.getElem_mem _
section
variable {ws : List (List Int)} {R : Nat} {Ls : List Sta} {wt : List Int}
theorem walk_way (O : Order ws R Ls) {v x : Nat} {rs : List Int} (h : WkL (wG wt (numG ws Ls)) v x rs) : ∀ ds, WayC ws ds → Ls[v]? = some (runS ws ds) → ∃ cs, rs = cs.map chI ∧ WayC ws (ds ++ cs) ∧ Ls[x]? = some (runS ws (ds ++ cs)) := by
  induction h with
  | nil => intro ds hd hv; exact ⟨[], rfl, by rw [List.append_nil]; exact hd, by rw [List.append_nil]; exact hv⟩
  | @cons v x es e ls hv he _ ih =>
    intro ds hd hL
    obtain ⟨L, h1, rfl⟩ := wG_at.mp hv
    rw [hL] at h1
    obtain rfl := Option.some.inj h1
    obtain ⟨c, hc, rfl⟩ := List.mem_map.mp he
    have hcan := chs_can.mp hc
    have hR : Rchd ws (nextL ws (runS ws ds) c) := Rchd.next ⟨ds, hd, rfl⟩ hcan
    obtain ⟨cs, e1, e2, e3⟩ := ih (ds ++ [c]) (hd.snoc hcan) (by rw [runS_snoc]; exact O.at1 hR)
    refine ⟨c :: cs, by rw [List.map_cons, e1], ?_, ?_⟩
    · rw [List.append_cons]; exact e2
    · rw [List.append_cons]; exact e3
theorem way_walk (O : Order ws R Ls) : ∀ (cs ds : List (Option Nat)), WayC ws (ds ++ cs) → WkL (wG wt (numG ws Ls)) (idxS Ls (runS ws ds)) (idxS Ls (runS ws (ds ++ cs))) (cs.map chI)
  | [], ds, _ => by rw [List.append_nil]; exact .nil
  | c :: cs, ds, h => by
    have hd : WayC ws ds := fun i d hi => by
      have hl := (List.getElem?_eq_some_iff.mp hi).1
      have := h i d (by rw [List.getElem?_append_left hl]; exact hi)
      rw [List.take_append_of_le_length (by omega)] at this
      exact this
    have hc : CanL ws (runS ws ds) c := by
      have := h ds.length c (by rw [List.getElem?_append_right (Nat.le_refl _), Nat.sub_self]; rfl)
      rw [List.take_left] at this
      exact this
    have ih := way_walk O cs (ds ++ [c]) (by rw [← List.append_cons]; exact h)
    rw [← List.append_cons, runS_snoc] at ih
    exact .cons (e := (chI c, worthN wt (chI c), idxS Ls (nextL ws (runS ws ds) c))) (wG_at.mpr ⟨_, O.at1 ⟨ds, hd, rfl⟩, rfl⟩) (List.mem_map.mpr ⟨c, chs_can.mpr hc, rfl⟩) ih
def repL (rs : List Int) : Nat → List Int
  | 0 => []
  | n + 1 => rs ++ repL rs n
theorem repL_walk {G : Gr} {v : Nat} {rs : List Int} (h : WkL G v v rs) : ∀ n, WkL G v v (repL rs n)
  | 0 => .nil
  | n + 1 => h.app (repL_walk h n)
theorem repL_at {rs : List Int} (h0 : 0 < rs.length) : ∀ (n i : Nat), i < rs.length * n → (repL rs n)[i]? = rs[i % rs.length]?
  | 0, i, h => by rw [Nat.mul_zero] at h; exact absurd h (Nat.not_lt_zero _)
  | n + 1, i, h => by
    unfold repL
    by_cases z : i < rs.length
    · rw [List.getElem?_append_left z, Nat.mod_eq_of_lt z]
    · have h2 : rs.length * (n + 1) = rs.length * n + rs.length := Nat.mul_succ _ _
      rw [List.getElem?_append_right (by omega), repL_at h0 n (i - rs.length) (by omega), Nat.mod_eq_sub_mod (by omega : i ≥ rs.length)]
theorem fits_of_walk (O : Order ws R Ls) (hR : Rea ws R) (R6 : R ≤ 60) {v : Nat} {rs : List Int} (h : WkL (wG wt (numG ws Ls)) v v rs) (h0 : rs ≠ []) : ∃ cs, rs = cs.map chI ∧ FitsC ws cs ∧ cs ≠ [] := by
  have hv : ∃ L, Ls[v]? = some L := by
    cases h with
    | nil => exact absurd rfl h0
    | cons a _ _ => obtain ⟨L, h1, _⟩ := wG_at.mp a; exact ⟨L, h1⟩
  obtain ⟨L, hL⟩ := hv
  obtain ⟨ds, hd, rfl⟩ := O.rch L (List.mem_of_getElem? hL)
  obtain ⟨cs, e1, hw, _⟩ := walk_way O h ds hd hL
  have hcs : cs ≠ [] := fun z => h0 (by rw [e1, z]; rfl)
  have l0 : 0 < cs.length := List.length_pos_iff.mpr hcs
  have lrs : rs.length = cs.length := by rw [e1, List.length_map]
  refine ⟨cs, e1, ⟨fun o ho => ?_, fun i j o k hij hi hj hb => ?_⟩, hcs⟩
  · obtain ⟨i, hi⟩ := List.mem_iff_getElem?.mp ho
    have := hw (ds.length + i) (some o) (by rw [List.getElem?_append_right (by omega), show ds.length + i - ds.length = i by omega]; exact hi)
    exact List.mem_range.mp (List.mem_filter.mp this).1
  · obtain ⟨cK, e2, hwK, _⟩ := walk_way O (repL_walk h (j + 1)) ds hd hL
    have at_ : ∀ t, t ≤ j → cK[t]? = some (atC cs t) := fun t ht => by
      have hlt : t < rs.length * (j + 1) := by
        have : 1 * (j + 1) ≤ rs.length * (j + 1) := Nat.mul_le_mul_right _ (by omega)
        omega
      have h1 := repL_at (rs := rs) (by omega) (j + 1) t hlt
      have h2 : t % rs.length < rs.length := Nat.mod_lt _ (by omega)
      rw [e2, List.getElem?_map, e1, List.getElem?_map, List.length_map] at h1
      have h3 : t % cs.length < cs.length := Nat.mod_lt _ l0
      rw [List.getElem?_eq_getElem h3] at h1
      obtain ⟨c, hc, h4⟩ := Option.map_eq_some_iff.mp h1
      rw [hc, chI_inj h4]
      unfold atC
      rw [List.getD_eq_getElem?_getD, List.getElem?_eq_getElem h3]; rfl
    have hcan := hwK (ds.length + j) (some k) (by rw [List.getElem?_append_right (by omega), show ds.length + j - ds.length = j by omega, at_ j (Nat.le_refl _), hj])
    obtain ⟨hk1, hk2⟩ := List.mem_filter.mp (show k ∈ openL ws _ from hcan)
    have hk1 := List.mem_range.mp hk1
    have lK : j < cK.length := (List.getElem?_eq_some_iff.mp (at_ j (Nat.le_refl _))).1
    have hlt : ((ds ++ cK).take (ds.length + j)).length = ds.length + j := by rw [List.length_take, List.length_append]; omega
    have : 0 ∈ rowS (runS ws ((ds ++ cK).take (ds.length + j))) k := by
      refine (row_run hR R6 _).mpr ⟨hk1, ds.length + i, o, ?_, ?_⟩
      · rw [List.getElem?_take, if_pos (by omega), List.getElem?_append_right (by omega), show ds.length + i - ds.length = i by omega, at_ i (by omega), hi]
      · rw [hlt, show 0 + (ds.length + j - (ds.length + i)) = j - i by omega]
        exact hb
    rw [decide_eq_true this] at hk2
    exact nomatch hk2
theorem word_way (hR : Rea ws R) (R6 : R ≤ 60) {cs : List (Option Nat)} (h : FitsC ws cs) (h0 : 0 < cs.length) : ∀ n, WayC ws (wordC cs n)
  | 0 => fun i c hi => nomatch hi
  | n + 1 => by
    rw [wordC_succ]
    refine (word_way hR R6 h h0 n).snoc ?_
    cases hc : atC cs n with
    | none => exact True.intro
    | some k =>
      have hk : k < ws.length := h.kind k (by rw [← hc]; exact atC_mem h0 n)
      refine List.mem_filter.mpr ⟨List.mem_range.mpr hk, ?_⟩
      rw [decide_eq_false]; rfl
      intro hd
      obtain ⟨_, i, o, hi, hm⟩ := (row_run hR R6 _).mp hd
      have hl := (List.getElem?_eq_some_iff.mp hi).1
      rw [wordC_len] at hl hm
      rw [wordC_at hl] at hi
      exact h.free i n o k hl (Option.some.inj hi) hc (by rw [show 0 + (n - i) = n - i by omega] at hm; exact hm)
theorem walk_of_fits (O : Order ws R Ls) (hR : Rea ws R) (R6 : R ≤ 60) {cs : List (Option Nat)} (h : FitsC ws cs) (h0 : cs ≠ []) : ∃ v, v < Ls.length ∧ WkL (wG wt (numG ws Ls)) v v (cs.map chI) := by
  have l0 : 0 < cs.length := List.length_pos_iff.mpr h0
  have hsp : wordC cs (cs.length * 60 + cs.length) = wordC cs (cs.length * 60) ++ cs := by
    refine List.ext_getElem? fun i => ?_
    by_cases z : i < cs.length * 60
    · rw [wordC_at (by omega), List.getElem?_append_left (by rw [wordC_len]; exact z), wordC_at z]
    · rw [List.getElem?_append_right (by rw [wordC_len]; omega), wordC_len]
      by_cases y : i < cs.length * 60 + cs.length
      · rw [wordC_at y, List.getElem?_eq_getElem (show i - cs.length * 60 < cs.length by omega), ← atC_lt (show i - cs.length * 60 < cs.length by omega), ← atC_mod cs (i - cs.length * 60) 60, show i - cs.length * 60 + cs.length * 60 = i by omega]
      · rw [List.getElem?_eq_none (by rw [wordC_len]; omega), List.getElem?_eq_none (by omega)]
  have same : runS ws (wordC cs (cs.length * 60)) = runS ws (wordC cs (cs.length * 60 + cs.length)) := by
    refine row_eq (runS_form hR _) (runS_form hR _) fun k d => ?_
    rw [row_run hR R6, row_run hR R6]
    constructor
    · rintro ⟨hk, i, o, hi, hm⟩
      have hl := (List.getElem?_eq_some_iff.mp hi).1
      rw [wordC_len] at hl hm
      rw [wordC_at hl] at hi
      refine ⟨hk, i + cs.length, o, ?_, ?_⟩
      · have := atC_mod cs i 1
        rw [Nat.mul_one] at this
        rw [wordC_at (by omega), this]; exact hi
      · rw [wordC_len, show cs.length * 60 + cs.length - (i + cs.length) = cs.length * 60 - i by omega]
        exact hm
    · rintro ⟨hk, i, o, hi, hm⟩
      have hl := (List.getElem?_eq_some_iff.mp hi).1
      rw [wordC_len] at hl hm
      rw [wordC_at hl] at hi
      have hb := hR o k _ hm
      refine ⟨hk, i - cs.length, o, ?_, ?_⟩
      · have := atC_mod cs (i - cs.length) 1
        rw [Nat.mul_one, show i - cs.length + cs.length = i by omega] at this
        rw [wordC_at (by omega), ← this]; exact hi
      · rw [wordC_len, show cs.length * 60 - (i - cs.length) = cs.length * 60 + cs.length - i by omega]
        exact hm
  have hw := word_way hR R6 h l0 (cs.length * 60 + cs.length)
  have hw0 := word_way hR R6 h l0 (cs.length * 60)
  rw [hsp] at hw same
  have := way_walk (wt := wt) O cs _ hw
  rw [← same] at this
  exact ⟨_, O.lt1 ⟨_, hw0, rfl⟩, this⟩
end
end Sg
set_option Elab.async false
set_option linter.all false
set_option maxRecDepth 100000
set_option maxHeartbeats 4000000
namespace Sg
open PySem PySem.Spec PyProof.Rows L2 StX
/-! ## the best lap, as a row of choices -/
def valC (wt : List Int) (cs : List (Option Nat)) : Int := sumL (worthN wt) (cs.map chI)
structure BestC (ws : List (List Int)) (wt : List Int) (hi : Int × Int) (cs : List (Option Nat)) : Prop where
  low : LowF hi
  fits : FitsC ws cs
  ne : cs ≠ []
  mean : hi.2 * valC wt cs = (cs.length : Nat) * hi.1
  top : ∀ ds, FitsC ws ds → ds ≠ [] → hi.2 * valC wt ds ≤ (ds.length : Nat) * hi.1
  min : ∀ ds, FitsC ws ds → ds ≠ [] → hi.2 * valC wt ds = (ds.length : Nat) * hi.1 → slexF (ds.map chI) (cs.map chI)
theorem bestC_of {ws : List (List Int)} {R : Nat} {Ls : List Sta} {wt : List Int} {hi : Int × Int} {ls : List Int} (O : Order ws R Ls) (hR : Rea ws R) (R6 : R ≤ 60) (h : BestG (wG wt (numG ws Ls)) (worthN wt) hi ls) : ∃ cs, ls = cs.map chI ∧ BestC ws wt hi cs ∧ cs.length ≤ 32768 := by
  obtain ⟨v, hv, hw⟩ := h.cyc
  obtain ⟨cs, rfl, hf, h0⟩ := fits_of_walk O hR R6 hw h.ne
  have hm := h.mean
  have hl := h.len
  rw [List.length_map] at hm hl
  rw [wG_len] at hl
  refine ⟨cs, rfl, ⟨h.low, hf, h0, hm, fun ds hd d0 => ?_, fun ds hd d0 he => ?_⟩, Nat.le_trans hl O.few⟩
  · obtain ⟨u, hu, hk⟩ := walk_of_fits (wt := wt) O hR R6 hd d0
    have := h.top u _ hk
    rw [List.length_map] at this
    exact this
  · obtain ⟨u, hu, hk⟩ := walk_of_fits (wt := wt) O hR R6 hd d0
    refine h.min u _ (by rw [wG_len]; exact hu) hk (fun z => d0 (List.map_eq_nil_iff.mp z)) ?_
    rw [List.length_map]
    exact he
theorem BestC.len0 {ws : List (List Int)} {wt : List Int} {hi : Int × Int} {cs : List (Option Nat)} (h : BestC ws wt hi cs) : 0 < cs.length := List.length_pos_iff.mpr h.ne
/-- a fraction is at most another one -/
def leF (x y : Int × Int) : Prop := x.1 * y.2 ≤ y.1 * x.2
theorem len_cancel {n : Nat} (h0 : 0 < n) {a b : Int} (h : ((n : Nat) : Int) * a ≤ (n : Nat) * b) : a ≤ b := by
  refine Int.le_of_mul_le_mul_left h (by omega)
/-- where worths are no less, the best mean is no less -/
theorem BestC.mono {ws : List (List Int)} {w1 w2 : List Int} {h1 h2 : Int × Int} {c1 c2 : List (Option Nat)} (A : BestC ws w1 h1 c1) (B : BestC ws w2 h2 c2) (hw : valC w1 c1 ≤ valC w2 c1) : leF h1 h2 := by
  have a := A.mean
  have b := B.top c1 A.fits A.ne
  have p1 := A.low.pos
  have p2 := B.low.pos
  refine len_cancel A.len0 ?_
  have e1 : h1.2 * (h2.2 * valC w1 c1) ≤ h1.2 * (h2.2 * valC w2 c1) := Int.mul_le_mul_of_nonneg_left (Int.mul_le_mul_of_nonneg_left hw (by omega)) (by omega)
  have e2 : h1.2 * (h2.2 * valC w2 c1) ≤ h1.2 * ((c1.length : Nat) * h2.1) := Int.mul_le_mul_of_nonneg_left b (by omega)
  have e3 : h1.2 * (h2.2 * valC w1 c1) = h2.2 * ((c1.length : Nat) * h1.1) := by rw [← a]; ac_rfl
  calc ((c1.length : Nat) : Int) * (h1.1 * h2.2) = h2.2 * ((c1.length : Nat) * h1.1) := by ac_rfl
    _ ≤ h1.2 * ((c1.length : Nat) * h2.1) := by rw [← e3]; exact Int.le_trans e1 e2
    _ = (c1.length : Nat) * (h2.1 * h1.2) := by ac_rfl
/-- added worths have at most the sum of the means -/
theorem BestC.sum {ws : List (List Int)} {w1 w2 w3 : List Int} {h1 h2 h3 : Int × Int} {c1 c2 c3 : List (Option Nat)} (A : BestC ws w1 h1 c1) (B : BestC ws w2 h2 c2) (D : BestC ws w3 h3 c3) (hw : valC w3 c3 = valC w1 c3 + valC w2 c3) : leF h3 (h1.1 * h2.2 + h2.1 * h1.2, h1.2 * h2.2) := by
  have a := A.top c3 D.fits D.ne
  have b := B.top c3 D.fits D.ne
  have d := D.mean
  have p1 := A.low.pos
  have p2 := B.low.pos
  have p3 := D.low.pos
  refine len_cancel D.len0 ?_
  show ((c3.length : Nat) : Int) * (h3.1 * (h1.2 * h2.2)) ≤ (c3.length : Nat) * ((h1.1 * h2.2 + h2.1 * h1.2) * h3.2)
  have e1 : (h3.2 * h2.2) * (h1.2 * valC w1 c3) ≤ (h3.2 * h2.2) * ((c3.length : Nat) * h1.1) := Int.mul_le_mul_of_nonneg_left a (Int.mul_nonneg (by omega) (by omega))
  have e2 : (h3.2 * h1.2) * (h2.2 * valC w2 c3) ≤ (h3.2 * h1.2) * ((c3.length : Nat) * h2.1) := Int.mul_le_mul_of_nonneg_left b (Int.mul_nonneg (by omega) (by omega))
  calc ((c3.length : Nat) : Int) * (h3.1 * (h1.2 * h2.2)) = (h1.2 * h2.2) * ((c3.length : Nat) * h3.1) := by ac_rfl
    _ = (h1.2 * h2.2) * (h3.2 * (valC w1 c3 + valC w2 c3)) := by rw [← d, hw]
    _ = (h3.2 * h2.2) * (h1.2 * valC w1 c3) + (h3.2 * h1.2) * (h2.2 * valC w2 c3) := by
      rw [Int.mul_add h3.2, Int.mul_add]
      congr 1 <;> ac_rfl
    _ ≤ (h3.2 * h2.2) * ((c3.length : Nat) * h1.1) + (h3.2 * h1.2) * ((c3.length : Nat) * h2.1) := Int.add_le_add e1 e2
    _ = (c3.length : Nat) * ((h1.1 * h2.2 + h2.1 * h1.2) * h3.2) := by
      rw [Int.add_mul, Int.mul_add]
      congr 1 <;> ac_rfl
theorem pos_cancel {a b c : Int} (ha : 0 < a) (h : a * b = a * c) : b = c := Int.eq_of_mul_eq_mul_left (by omega) h
/-- two fractions in lowest terms, each at most the other -/
theorem low_eqF {x y : Int × Int} (hx : LowF x) (hy : LowF y) (h : leF x y) (k : leF y x) : x = y := by
  obtain ⟨a, b⟩ := x
  obtain ⟨c, d⟩ := y
  have h1 := hx.pos
  have h2 := hx.top
  have h3 := hx.low
  have h4 := hy.pos
  have h5 := hy.top
  have h6 := hy.low
  have e : a * d = c * b := Int.le_antisymm h k
  simp only at h1 h2 h3 h4 h5 h6
  obtain ⟨a, rfl⟩ : ∃ n : Nat, a = n := ⟨a.toNat, by omega⟩
  obtain ⟨b, rfl⟩ : ∃ n : Nat, b = n := ⟨b.toNat, by omega⟩
  obtain ⟨c, rfl⟩ : ∃ n : Nat, c = n := ⟨c.toNat, by omega⟩
  obtain ⟨d, rfl⟩ : ∃ n : Nat, d = n := ⟨d.toNat, by omega⟩
  rw [Int.natAbs_natCast, Int.natAbs_natCast] at h3 h6
  rw [← Int.natCast_mul, ← Int.natCast_mul] at e
  have e : a * d = c * b := by omega
  have cop1 : Nat.Coprime a b := h3
  have cop2 : Nat.Coprime c d := h6
  have d1 : b ∣ d := cop1.symm.dvd_of_dvd_mul_left ⟨c, by rw [e, Nat.mul_comm]⟩
  have d2 : d ∣ b := cop2.symm.dvd_of_dvd_mul_left ⟨a, by rw [← e, Nat.mul_comm]⟩
  have : b = d := Nat.dvd_antisymm d1 d2
  subst this
  have hb : 0 < b := by omega
  rw [Nat.eq_of_mul_eq_mul_right hb e]
end Sg
set_option Elab.async false
set_option linter.all false
set_option maxRecDepth 100000
set_option maxHeartbeats 4000000
namespace Sg
/-! ## the greatest mean of a cycle, by the best walks of each length -/
section
variable {A : Type}
inductive Wk (E : A → List (A × Int)) : A → Nat → Int → A → Prop
  | nil {u : A} : Wk E u 0 0 u
  | snoc {u v x : A} {n : Nat} {g c : Int} : Wk E u n g v → (x, c) ∈ E v → Wk E u (n + 1) (g + c) x
theorem Wk.app {E : A → List (A × Int)} {u v x : A} {n m : Nat} {g h : Int} (a : Wk E u n g v) (b : Wk E v m h x) : Wk E u (n + m) (g + h) x := by
  induction b with
  | nil => rw [Int.add_zero]; exact a
  | snoc _ e ih => rw [← Int.add_assoc]; exact ih.snoc e
theorem Wk.cast {E : A → List (A × Int)} {u v : A} {n m : Nat} {g h : Int} (a : Wk E u n g v) (e1 : n = m) (e2 : g = h) : Wk E u m h v := by subst e1 e2; exact a
theorem Wk.path {E : A → List (A × Int)} {u v : A} {n : Nat} {g : Int} (a : Wk E u n g v) : ∃ (f : Nat → A) (G : Nat → Int), f 0 = u ∧ f n = v ∧ G 0 = 0 ∧ G n = g ∧ ∀ i j, i ≤ j → j ≤ n → Wk E (f i) (j - i) (G j - G i) (f j) := by
  induction a with
  | nil =>
    refine ⟨fun _ => u, fun _ => 0, rfl, rfl, rfl, rfl, fun i j _ hj => ?_⟩
    obtain rfl : j = 0 := by omega
    rw [Nat.zero_sub]; exact .nil
  | @snoc v x n g c _ e ih =>
    obtain ⟨f, G, f0, fn, G0, Gn, h⟩ := ih
    refine ⟨fun i => if i = n + 1 then x else f i, fun i => if i = n + 1 then g + c else G i, ?_, ?_, ?_, ?_, fun i j hij hj => ?_⟩
    · exact (if_neg (by omega)).trans f0
    · exact if_pos rfl
    · exact (if_neg (by omega)).trans G0
    · exact if_pos rfl
    · by_cases z : j = n + 1
      · subst z
        by_cases y : i = n + 1
        · subst y
          dsimp only
          rw [if_pos rfl, if_pos rfl, Nat.sub_self, Int.sub_self]; exact .nil
        · dsimp only
          rw [if_neg y, if_pos rfl, if_neg y, if_pos rfl]
          have := (h i n (by omega) (Nat.le_refl _))
          rw [fn] at this
          exact (this.snoc e).cast (by omega) (by rw [Gn]; omega)
      · dsimp only
        rw [if_neg (by omega : ¬ i = n + 1), if_neg z, if_neg z, if_neg (by omega : ¬ i = n + 1)]
        exact h i j hij (by omega)
theorem pigeon [DecidableEq A] : ∀ (n : Nat) (L : List A) (f : Nat → A), (∀ i, i ≤ n → f i ∈ L) → L.length ≤ n → ∃ i j, i < j ∧ j ≤ n ∧ f i = f j
  | 0, L, f, h, hl => by
    have := h 0 (Nat.le_refl _)
    rw [List.eq_nil_of_length_eq_zero (Nat.le_zero.mp hl)] at this
    exact nomatch this
  | n + 1, L, f, h, hl => by
    by_cases hx : ∃ i, i ≤ n ∧ f i = f (n + 1)
    · obtain ⟨i, hi, e⟩ := hx
      exact ⟨i, n + 1, by omega, Nat.le_refl _, e⟩
    · obtain ⟨i, j, a, b, c⟩ := pigeon n (L.erase (f (n + 1))) f (fun i hi => (List.mem_erase_of_ne (fun z => hx ⟨i, hi, z⟩)).mpr (h i (by omega))) (by
        rw [List.length_erase_of_mem (h (n + 1) (Nat.le_refl _))]; omega)
      exact ⟨i, j, a, by omega, c⟩
/-- a walk of as many steps as there are nodes comes back to one -/
theorem Wk.loop [DecidableEq A] {E : A → List (A × Int)} {r v : A} {L : List A} (hr : r ∈ L) (hE : ∀ u, u ∈ L → ∀ x c, (x, c) ∈ E u → x ∈ L) {n : Nat} {g : Int} (a : Wk E r n g v) (hn : L.length ≤ n) :
    ∃ i c m g1 g2 g3 u, 0 < c ∧ c ≤ L.length ∧ i + c + m = n ∧ g1 + g2 + g3 = g ∧ u ∈ L ∧ Wk E r i g1 u ∧ Wk E u c g2 u ∧ Wk E u m g3 v := by
  have hin : ∀ {x n g}, Wk E r n g x → x ∈ L := by
    intro x n g w
    induction w with
    | nil => exact hr
    | snoc _ e ih => exact hE _ ih _ _ e
  obtain ⟨f, G, f0, fn, G0, Gn, h⟩ := a.path
  have hf : ∀ i, i ≤ L.length → f i ∈ L := fun i hi => by
    have := h 0 i (Nat.zero_le _) (by omega)
    rw [f0] at this
    exact hin this
  obtain ⟨i, j, hij, hj, e⟩ := pigeon L.length L f hf (Nat.le_refl _)
  have w1 := h 0 i (Nat.zero_le _) (by omega)
  have w2 := h i j (by omega) (by omega)
  have w3 := h j n (by omega) (Nat.le_refl _)
  rw [f0] at w1
  rw [← e] at w2 w3
  rw [fn] at w3
  exact ⟨i, j - i, n - j, G i, G j - G i, G n - G j, f i, by omega, by omega, by omega, by omega, hf i (by omega), w1.cast (by omega) (by omega), w2, w3⟩
/-- the facts of a graph whose greatest mean is t / b -/
structure MeanIs (E : A → List (A × Int)) (r : A) (L : List A) (t b : Int) : Prop where
  rt : r ∈ L
  cl : ∀ u, u ∈ L → ∀ x c, (x, c) ∈ E u → x ∈ L
  top : ∀ u n g m h, Wk E r m h u → Wk E u n g u → 0 < n → b * g ≤ t * (n : Int)
  hit : ∃ u m h n g, Wk E r m h u ∧ Wk E u n g u ∧ 0 < n ∧ b * g = t * (n : Int)
theorem MeanIs.low [DecidableEq A] {E : A → List (A × Int)} {r : A} {L : List A} {t b : Int} (M : MeanIs E r L t b) {g : Int} {v : A} (a : Wk E r L.length g v) : ∃ k g', k < L.length ∧ Wk E r k g' v ∧ b * (g - g') ≤ t * ((L.length : Int) - k) := by
  obtain ⟨i, c, m, g1, g2, g3, u, c0, cl, en, eg, _, w1, w2, w3⟩ := a.loop M.rt M.cl (Nat.le_refl _)
  have h := M.top u c g2 i g1 w1 w2 c0
  refine ⟨i + m, g1 + g3, by omega, w1.app w3, ?_⟩
  rw [show g - (g1 + g3) = g2 by omega, show (L.length : Int) - ((i + m : Nat) : Int) = (c : Int) by omega]
  exact h
/-- each walk has a short one that is worth no less -/
theorem MeanIs.short [DecidableEq A] {E : A → List (A × Int)} {r : A} {L : List A} {t b : Int} (M : MeanIs E r L t b) {v : A} : ∀ (n : Nat) (g : Int), Wk E r n g v → ∃ k g', k < L.length ∧ Wk E r k g' v ∧ b * g - t * n ≤ b * g' - t * k := by
  intro n
  induction n using Nat.strongRecOn with
  | _ n ih =>
    intro g a
    rcases Nat.lt_or_ge n L.length with hn | hn
    · exact ⟨n, g, hn, a, Int.le_refl _⟩
    · obtain ⟨i, c, m, g1, g2, g3, u, c0, cl, en, eg, _, w1, w2, w3⟩ := a.loop M.rt M.cl hn
      have h := M.top u c g2 i g1 w1 w2 c0
      obtain ⟨k, g', hk, wk, hh⟩ := ih (i + m) (by omega) (g1 + g3) (w1.app w3)
      refine ⟨k, g', hk, wk, Int.le_trans ?_ hh⟩
      have e1 : b * g = b * (g1 + g3) + b * g2 := by rw [← Int.mul_add]; congr 1; omega
      have e2 : t * (n : Int) = t * ((i + m : Nat) : Int) + t * (c : Int) := by rw [← Int.mul_add]; congr 1; omega
      omega
/-- the best walks of each length, told -/
structure BestWk (E : A → List (A × Int)) (r : A) (N : Nat) (D : Nat → A → Option Int) : Prop where
  is : ∀ k v g, D k v = some g → Wk E r k g v
  ex : ∀ k v g, k ≤ N → Wk E r k g v → ∃ g', D k v = some g' ∧ g ≤ g'
theorem most_upto (e : Nat → Option Int) : ∀ n, (∃ k, k < n ∧ ∃ x, e k = some x) → ∃ k x, k < n ∧ e k = some x ∧ ∀ j y, j < n → e j = some y → y ≤ x
  | 0, h => by obtain ⟨k, hk, _⟩ := h; exact absurd hk (Nat.not_lt_zero _)
  | n + 1, h => by
    by_cases hp : ∃ k, k < n ∧ ∃ x, e k = some x
    · obtain ⟨k, x, hk, ex, hm⟩ := most_upto e n hp
      cases en : e n with
      | none => exact ⟨k, x, by omega, ex, fun j y hj hy => by
          by_cases z : j = n
          · rw [z, en] at hy; exact nomatch hy
          · exact hm j y (by omega) hy⟩
      | some y0 =>
        by_cases hy0 : y0 ≤ x
        · refine ⟨k, x, by omega, ex, fun j y hj hy => ?_⟩
          by_cases z : j = n
          · rw [z, en] at hy; obtain rfl := Option.some.inj hy; exact hy0
          · exact hm j y (by omega) hy
        · refine ⟨n, y0, by omega, en, fun j y hj hy => ?_⟩
          by_cases z : j = n
          · rw [z, en] at hy; obtain rfl := Option.some.inj hy; exact Int.le_refl _
          · have := hm j y (by omega) hy; omega
    · obtain ⟨k, hk, x, hx⟩ := h
      have hkn : k = n := Classical.byContradiction fun z => hp ⟨k, by omega, x, hx⟩
      subst hkn
      exact ⟨k, x, by omega, hx, fun j y hj hy => by
        by_cases z : j = k
        · rw [z, hx] at hy; obtain rfl := Option.some.inj hy; exact Int.le_refl _
        · exact absurd ⟨j, by omega, y, hy⟩ hp⟩
theorem MeanIs.high [DecidableEq A] {E : A → List (A × Int)} {r : A} {L : List A} {t b : Int} {D : Nat → A → Option Int} (M : MeanIs E r L t b) (W : BestWk E r L.length D) (b0 : 0 ≤ b) : ∃ v g, D L.length v = some g ∧ ∀ k g', D k v = some g' → t * ((L.length : Int) - k) ≤ b * (g - g') := by
  obtain ⟨u, m, h, n, g, wm, wn, n0, he⟩ := M.hit
  obtain ⟨k0, g0, hk0, w0, _⟩ := M.short m h wm
  obtain ⟨x0, hx0, _⟩ := W.ex k0 u g0 (by omega) w0
  obtain ⟨k1, e1, hk1, he1, hmax⟩ := most_upto (fun k => (D k u).map fun z => b * z - t * k) L.length ⟨k0, hk0, _, by rw [hx0]; rfl⟩
  obtain ⟨g1, hg1, ee⟩ := Option.map_eq_some_iff.mp he1
  have w1 := W.is _ _ _ hg1
  -- no walk to u is worth more
  have all : ∀ k g', Wk E r k g' u → b * g' - t * k ≤ b * g1 - t * k1 := fun k g' w => by
    obtain ⟨k2, g2, hk2, w2, h2⟩ := M.short k g' w
    obtain ⟨g3, hg3, h3⟩ := W.ex _ _ _ (by omega) w2
    have h4 := hmax k2 (b * g3 - t * k2) hk2 (by rw [hg3]; rfl)
    have h5 : b * g2 ≤ b * g3 := Int.mul_le_mul_of_nonneg_left h3 b0
    have ee : b * g1 - t * (k1 : Int) = e1 := ee
    omega
  -- go round until there are enough steps
  have round : ∀ j, ∃ l s, j ≤ l ∧ Wk E r l s u ∧ b * s - t * l = b * g1 - t * k1 := by
    intro j
    induction j with
    | zero => exact ⟨k1, g1, Nat.zero_le _, w1, rfl⟩
    | succ j ih =>
      obtain ⟨l, s, hl, w, e⟩ := ih
      refine ⟨l + n, s + g, by omega, w.app wn, ?_⟩
      rw [Int.mul_add, he, ← e, Int.natCast_add, Int.mul_add]
      omega
  obtain ⟨l, s, hl, w, e⟩ := round L.length
  obtain ⟨f, G, f0, fn, G0, Gn, hp⟩ := w.path
  have wa := hp 0 L.length (Nat.zero_le _) hl
  have wb := hp L.length l hl (Nat.le_refl _)
  rw [f0, Nat.sub_zero, G0, Int.sub_zero] at wa
  rw [fn] at wb
  obtain ⟨g4, hg4, h4⟩ := W.ex _ _ _ (Nat.le_refl _) wa
  refine ⟨_, g4, hg4, fun k g' hg' => ?_⟩
  have wk := W.is _ _ _ hg'
  have h6 := all _ _ (wk.app wb)
  have h7 : b * G L.length ≤ b * g4 := Int.mul_le_mul_of_nonneg_left h4 b0
  have e1 : b * (g' + (G l - G L.length)) = b * g' + b * s - b * G L.length := by rw [Int.mul_add, Int.mul_sub, Gn]; omega
  have e2 : t * ((k + (l - L.length) : Nat) : Int) = t * k + t * l - t * L.length := by
    rw [show ((k + (l - L.length) : Nat) : Int) = k + ((l : Int) - L.length) by omega, Int.mul_add, Int.mul_sub]; omega
  rw [e1, e2] at h6
  rw [Int.mul_sub, Int.mul_sub]
  omega
end
end Sg
set_option Elab.async false
set_option linter.all false
set_option maxRecDepth 100000
set_option maxHeartbeats 4000000
namespace Sg
/-! ## sets of barred delays as binary digits -/
def stM (B m : Nat) (c : Bool) : Option Nat := if c then (if m % 2 = 0 then some ((m >>> 1) ||| B) else none) else some (m >>> 1)
def goM (B m : Nat) (w : List Bool) : Option Nat := w.foldl (fun o c => o.bind fun z => stM B z c) (some m)
def edM (B m : Nat) : List (Nat × Int) := (m >>> 1, 0) :: if m % 2 = 0 then [((m >>> 1) ||| B, 1)] else []
def cntB : List Bool → Int
  | [] => 0
  | c :: w => (if c then 1 else 0) + cntB w
theorem cntB_app : ∀ a b : List Bool, cntB (a ++ b) = cntB a + cntB b
  | [], b => (Int.zero_add _).symm
  | c :: a, b => by
    show _ + cntB (a ++ b) = _ + cntB a + cntB b
    rw [cntB_app a b, Int.add_assoc]
theorem goM_snoc (B m : Nat) (w : List Bool) (c : Bool) : goM B m (w ++ [c]) = (goM B m w).bind fun z => stM B z c := by
  unfold goM; rw [List.foldl_append]; rfl
theorem fold_none (B : Nat) : ∀ w : List Bool, w.foldl (fun o c => o.bind fun z => stM B z c) none = none
  | [] => rfl
  | c :: w => fold_none B w
theorem goM_app (B m : Nat) (a b : List Bool) : goM B m (a ++ b) = (goM B m a).bind fun z => goM B z b := by
  unfold goM
  rw [List.foldl_append]
  cases h : List.foldl (fun o c => o.bind fun z => stM B z c) (some m) a with
  | none => rw [fold_none]; rfl
  | some z => rfl
theorem stM_ed {B m x : Nat} {c : Bool} (h : stM B m c = some x) : (x, (if c then 1 else 0 : Int)) ∈ edM B m := by
  unfold stM at h
  unfold edM
  cases c with
  | false => rw [if_neg (by decide)] at h; rw [← Option.some.inj h]; exact .head _
  | true =>
    rw [if_pos rfl] at h
    by_cases z : m % 2 = 0
    · rw [if_pos z] at h; rw [if_pos z, ← Option.some.inj h]; exact .tail _ (.head _)
    · rw [if_neg z] at h; exact nomatch h
theorem ed_stM {B m x : Nat} {g : Int} (h : (x, g) ∈ edM B m) : ∃ c, stM B m c = some x ∧ g = if c then 1 else 0 := by
  unfold edM at h
  rcases List.mem_cons.mp h with h | h
  · obtain ⟨rfl, rfl⟩ := Prod.mk.inj h
    exact ⟨false, rfl, rfl⟩
  · by_cases z : m % 2 = 0
    · rw [if_pos z] at h
      obtain ⟨rfl, rfl⟩ := Prod.mk.inj (List.mem_singleton.mp h)
      refine ⟨true, ?_, rfl⟩
      unfold stM; rw [if_pos rfl, if_pos z]
    · rw [if_neg z] at h; exact nomatch h
theorem snoc_ind {p : List Bool → Prop} (h0 : p []) (h1 : ∀ w c, p w → p (w ++ [c])) : ∀ w, p w := by
  have : ∀ n (w : List Bool), w.length = n → p w := by
    intro n
    induction n with
    | zero => intro w h; rw [List.eq_nil_of_length_eq_zero h]; exact h0
    | succ n ih =>
      intro w h
      have hw : w ≠ [] := fun z => by rw [z] at h; exact nomatch h
      rw [← List.dropLast_concat_getLast hw]
      exact h1 _ _ (ih _ (by rw [List.length_dropLast]; omega))
  exact fun w => this _ w rfl
theorem go_wk {B u : Nat} : ∀ w v, goM B u w = some v → Wk (edM B) u w.length (cntB w) v := by
  refine snoc_ind (p := fun w => ∀ v, goM B u w = some v → Wk (edM B) u w.length (cntB w) v) (fun v h => ?_) (fun w c ih v h => ?_)
  · rw [← Option.some.inj h]; exact .nil
  · rw [goM_snoc] at h
    obtain ⟨z, hz, hs⟩ := Option.bind_eq_some_iff.mp h
    exact ((ih z hz).snoc (stM_ed hs)).cast (by rw [List.length_append]; rfl) (by rw [cntB_app]; show _ = cntB w + (_ + 0); rw [Int.add_zero])
theorem wk_go {B u v n : Nat} {g : Int} (h : Wk (edM B) u n g v) : ∃ w, goM B u w = some v ∧ w.length = n ∧ cntB w = g := by
  induction h with
  | nil => exact ⟨[], rfl, rfl, rfl⟩
  | snoc _ e ih =>
    obtain ⟨w, h1, h2, h3⟩ := ih
    obtain ⟨c, hc, rfl⟩ := ed_stM e
    refine ⟨w ++ [c], ?_, ?_, ?_⟩
    · rw [goM_snoc, h1]; exact hc
    · rw [List.length_append, h2]; rfl
    · rw [cntB_app, h3]; show _ + (_ + 0) = _; rw [Int.add_zero]
/-- the digits tell which delays are barred -/
def IsB (B : Nat) (bs : List Nat) : Prop := ∀ i, B.testBit i = true ↔ i + 1 ∈ bs
theorem snoc_at {w : List Bool} {c : Bool} {p : Nat} (h : (w ++ [c])[p]? = some true) : (p < w.length ∧ w[p]? = some true) ∨ (p = w.length ∧ c = true) := by
  rcases Nat.lt_or_ge p w.length with z | z
  · rw [List.getElem?_append_left z] at h; exact .inl ⟨z, h⟩
  · rw [List.getElem?_append_right z] at h
    have := (List.getElem?_eq_some_iff.mp h).1
    have e : p - w.length = 0 := by have : p - w.length < 1 := this; omega
    rw [e] at h
    exact .inr ⟨by omega, Option.some.inj h⟩
theorem at_snoc {w : List Bool} {c : Bool} {p : Nat} (h : w[p]? = some true) : (w ++ [c])[p]? = some true := by
  rw [List.getElem?_append_left (List.getElem?_eq_some_iff.mp h).1]; exact h
theorem shr_bit (m i : Nat) : (m >>> 1).testBit i = m.testBit (i + 1) := by
  rw [Nat.testBit_shiftRight, Nat.add_comm]
theorem bit0 (m : Nat) : m % 2 = 0 ↔ m.testBit 0 = false := by
  rw [Nat.testBit_zero, decide_eq_false_iff_not]; omega
def FreeW (bs : List Nat) (w : List Bool) : Prop := ∀ p q, p < q → w[p]? = some true → w[q]? = some true → q - p ∉ bs
theorem go_bits {B : Nat} {bs : List Nat} (hB : IsB B bs) : ∀ w v, goM B 0 w = some v → (∀ i, v.testBit i = true ↔ ∃ p, p < w.length ∧ w[p]? = some true ∧ w.length - p + i ∈ bs) ∧ FreeW bs w := by
  refine snoc_ind (p := fun w => ∀ v, goM B 0 w = some v → (∀ i, v.testBit i = true ↔ ∃ p, p < w.length ∧ w[p]? = some true ∧ w.length - p + i ∈ bs) ∧ FreeW bs w) (fun v h => ?_) (fun w c ih v h => ?_)
  · rw [← Option.some.inj h]
    refine ⟨fun i => ⟨fun z => ?_, fun ⟨p, hp, _⟩ => nomatch hp⟩, fun p q _ h => nomatch h⟩
    rw [Nat.zero_testBit] at z; exact nomatch z
  · rw [goM_snoc] at h
    obtain ⟨m, hm, hs⟩ := Option.bind_eq_some_iff.mp h
    obtain ⟨h1, h2⟩ := ih m hm
    have len : (w ++ [c]).length = w.length + 1 := by rw [List.length_append]; rfl
    have bits : ∀ i, (m >>> 1).testBit i = true ↔ ∃ p, p < w.length ∧ w[p]? = some true ∧ w.length + 1 - p + i ∈ bs := fun i => by
      rw [shr_bit, h1]
      constructor
      · rintro ⟨p, a, b, d⟩; exact ⟨p, a, b, by rw [show w.length + 1 - p + i = w.length - p + (i + 1) by omega]; exact d⟩
      · rintro ⟨p, a, b, d⟩; exact ⟨p, a, b, by rw [show w.length - p + (i + 1) = w.length + 1 - p + i by omega]; exact d⟩
    unfold stM at hs
    cases c with
    | false =>
      rw [if_neg (by decide)] at hs
      obtain rfl := Option.some.inj hs
      refine ⟨fun i => ?_, fun p q hpq hp hq => ?_⟩
      · rw [bits, len]
        constructor
        · rintro ⟨p, a, b, d⟩; exact ⟨p, by omega, at_snoc b, d⟩
        · rintro ⟨p, a, b, d⟩
          rcases snoc_at b with ⟨x, y⟩ | ⟨_, y⟩
          · exact ⟨p, x, y, d⟩
          · exact nomatch y
      · rcases snoc_at hp with ⟨_, y⟩ | ⟨_, y⟩
        · rcases snoc_at hq with ⟨_, z⟩ | ⟨_, z⟩
          · exact h2 p q hpq y z
          · exact nomatch z
        · exact nomatch y
    | true =>
      rw [if_pos rfl] at hs
      by_cases z : m % 2 = 0
      · rw [if_pos z] at hs
        obtain rfl := Option.some.inj hs
        have z0 := (bit0 m).mp z
        refine ⟨fun i => ?_, fun p q hpq hp hq => ?_⟩
        · rw [Nat.testBit_or, Bool.or_eq_true, bits, hB, len]
          constructor
          · rintro (⟨p, a, b, d⟩ | d)
            · exact ⟨p, by omega, at_snoc b, d⟩
            · refine ⟨w.length, by omega, ?_, by rw [show w.length + 1 - w.length + i = i + 1 by omega]; exact d⟩
              rw [List.getElem?_append_right (Nat.le_refl _), Nat.sub_self]; rfl
          · rintro ⟨p, a, b, d⟩
            rcases snoc_at b with ⟨x, y⟩ | ⟨x, _⟩
            · exact .inl ⟨p, x, y, d⟩
            · exact .inr (by rw [show i + 1 = w.length + 1 - p + i by omega]; exact d)
        · rcases snoc_at hp with ⟨x, y⟩ | ⟨x, _⟩
          · rcases snoc_at hq with ⟨_, t⟩ | ⟨t, _⟩
            · exact h2 p q hpq y t
            · intro hd
              have : m.testBit 0 = true := (h1 0).mpr ⟨p, x, y, by rw [show w.length - p + 0 = q - p by omega]; exact hd⟩
              rw [z0] at this; exact nomatch this
          · exfalso
            have := (List.getElem?_eq_some_iff.mp hq).1
            omega
      · rw [if_neg z] at hs; exact nomatch hs
theorem free_go {B : Nat} {bs : List Nat} (hB : IsB B bs) : ∀ w, FreeW bs w → ∃ v, goM B 0 w = some v := by
  refine snoc_ind (p := fun w => FreeW bs w → ∃ v, goM B 0 w = some v) (fun _ => ⟨0, rfl⟩) (fun w c ih h => ?_)
  obtain ⟨m, hm⟩ := ih fun p q hpq hp hq => h p q hpq (at_snoc hp) (at_snoc hq)
  rw [goM_snoc, hm]
  show ∃ v, stM B m c = some v
  unfold stM
  cases c with
  | false => exact ⟨_, rfl⟩
  | true =>
    rw [if_pos rfl, if_pos]
    · exact ⟨_, rfl⟩
    · rw [bit0]
      cases hb : m.testBit 0 with
      | false => rfl
      | true =>
        obtain ⟨p, hp, a, d⟩ := ((go_bits hB w m hm).1 0).mp hb
        exfalso
        refine h p w.length hp (at_snoc a) ?_ (by rw [show w.length - p = w.length - p + 0 by omega]; exact d)
        rw [List.getElem?_append_right (Nat.le_refl _), Nat.sub_self]; rfl
/-! laps -/
def atB (c : List Bool) (i : Nat) : Bool := c.getD (i % c.length) false
def repB (c : List Bool) : Nat → List Bool
  | 0 => []
  | n + 1 => repB c n ++ c
theorem repB_len (c : List Bool) : ∀ n, (repB c n).length = n * c.length
  | 0 => by rw [Nat.zero_mul]; rfl
  | n + 1 => by
    show (repB c n ++ c).length = _
    rw [List.length_append, repB_len c n, Nat.succ_mul]
theorem repB_cnt (c : List Bool) : ∀ n : Nat, cntB (repB c n) = n * cntB c
  | 0 => by rw [Int.natCast_zero, Int.zero_mul]; rfl
  | n + 1 => by
    show cntB (repB c n ++ c) = _
    rw [cntB_app, repB_cnt c n, Int.natCast_succ, Int.add_mul, Int.one_mul]
theorem repB_at {c : List Bool} (h0 : 0 < c.length) : ∀ (n i : Nat), i < n * c.length → (repB c n)[i]? = some (atB c i)
  | 0, i, h => by rw [Nat.zero_mul] at h; exact absurd h (Nat.not_lt_zero _)
  | n + 1, i, h => by
    show (repB c n ++ c)[i]? = _
    rw [Nat.succ_mul] at h
    rcases Nat.lt_or_ge i (n * c.length) with z | z
    · rw [List.getElem?_append_left (by rw [repB_len]; exact z)]
      exact repB_at h0 n i z
    · rw [List.getElem?_append_right (by rw [repB_len]; exact z), repB_len]
      unfold atB
      have e : i % c.length = i - n * c.length := by
        rw [show i = (i - n * c.length) + c.length * n by rw [Nat.mul_comm c.length]; omega, Nat.add_mul_mod_self_left, Nat.mod_eq_of_lt (by omega)]
        rw [Nat.mul_comm c.length]; omega
      rw [e, List.getD_eq_getElem?_getD, List.getElem?_eq_getElem (show i - n * c.length < c.length by omega)]
      rfl
def FitsB (bs : List Nat) (c : List Bool) : Prop := ∀ i j, i < j → atB c i = true → atB c j = true → j - i ∉ bs
theorem closed_fits {B : Nat} {bs : List Nat} (hB : IsB B bs) {d c : List Bool} {u : Nat} (hd : goM B 0 d = some u) (hc : goM B u c = some u) (h0 : 0 < c.length) : FitsB bs c := by
  have rep : ∀ n, goM B 0 (d ++ repB c n) = some u := by
    intro n
    induction n with
    | zero => show goM B 0 (d ++ []) = _; rw [List.append_nil]; exact hd
    | succ n ih =>
      show goM B 0 (d ++ (repB c n ++ c)) = _
      rw [← List.append_assoc, goM_app, ih]; exact hc
  intro i j hij hi hj
  have hf := (go_bits hB _ _ (rep (j + 1))).2
  have lt : ∀ t, t ≤ j → t < (j + 1) * c.length := fun t ht => by
    have : (j + 1) * 1 ≤ (j + 1) * c.length := Nat.mul_le_mul_left _ h0
    omega
  have at_ : ∀ t, t ≤ j → atB c t = true → (d ++ repB c (j + 1))[d.length + t]? = some true := fun t ht hb => by
    rw [List.getElem?_append_right (by omega), show d.length + t - d.length = t by omega, repB_at h0 _ _ (lt t ht), hb]
  have := hf (d.length + i) (d.length + j) (by omega) (at_ i (by omega) hi) (at_ j (Nat.le_refl _) hj)
  rw [show d.length + j - (d.length + i) = j - i by omega] at this
  exact this
theorem fits_closed {B : Nat} {bs : List Nat} (hB : IsB B bs) {L : List Nat} (hr : 0 ∈ L) (hE : ∀ u, u ∈ L → ∀ x c, (x, c) ∈ edM B u → x ∈ L) {c : List Bool} (h0 : 0 < c.length) (hf : FitsB bs c) :
    ∃ u m h n, Wk (edM B) 0 m h u ∧ Wk (edM B) u (n * c.length) ((n : Int) * cntB c) u ∧ 0 < n := by
  have hin : ∀ {x n g}, Wk (edM B) 0 n g x → x ∈ L := by
    intro x n g w
    induction w with
    | nil => exact hr
    | snoc _ e ih => exact hE _ ih _ _ e
  have free : ∀ n, FreeW bs (repB c n) := fun n p q hpq hp hq => by
    have lp := (List.getElem?_eq_some_iff.mp hp).1
    have lq := (List.getElem?_eq_some_iff.mp hq).1
    rw [repB_len] at lp lq
    rw [repB_at h0 _ _ lp] at hp
    rw [repB_at h0 _ _ lq] at hq
    exact hf p q hpq (Option.some.inj hp) (Option.some.inj hq)
  have go : ∀ n, ∃ v, goM B 0 (repB c n) = some v := fun n => free_go hB _ (free n)
  let f : Nat → Nat := fun n => (goM B 0 (repB c n)).getD 0
  have hfn : ∀ n, goM B 0 (repB c n) = some (f n) := fun n => by
    obtain ⟨v, hv⟩ := go n
    show _ = some ((goM B 0 (repB c n)).getD 0)
    rw [hv]; rfl
  obtain ⟨i, j, hij, hj, e⟩ := pigeon L.length L f (fun i _ => hin (go_wk _ _ (hfn i))) (Nat.le_refl _)
  have app : ∀ a b, repB c (a + b) = repB c a ++ repB c b := by
    intro a b
    induction b with
    | zero => show repB c a = repB c a ++ []; rw [List.append_nil]
    | succ b ih =>
      show repB c (a + b) ++ c = repB c a ++ (repB c b ++ c)
      rw [ih, List.append_assoc]
  have hw : goM B (f i) (repB c (j - i)) = some (f i) := by
    have h1 := hfn j
    rw [show j = i + (j - i) by omega, app, goM_app, hfn i] at h1
    rw [show i + (j - i) = j by omega, ← e] at h1
    exact h1
  exact ⟨f i, _, _, j - i, go_wk _ _ (hfn i), (go_wk _ _ hw).cast (repB_len _ _) (repB_cnt _ _), by omega⟩
end Sg
set_option Elab.async false
set_option linter.all false
set_option maxRecDepth 100000
set_option maxHeartbeats 4000000
namespace Sg
open PySem PySem.Spec PyProof.Rows L2 StX
/-! ## laps of one work are words of starts -/
def ofB (c : List Bool) : List (Option Nat) := c.map fun b => if b then some 0 else none
theorem ofB_at (c : List Bool) (i : Nat) : atC (ofB c) i = if atB c i then some 0 else none := by
  unfold atC atB ofB
  rw [List.length_map, List.getD_eq_getElem?_getD, List.getD_eq_getElem?_getD, List.getElem?_map]
  cases c[i % c.length]? with
  | none => rfl
  | some b => rfl
theorem ofB_val : ∀ c : List Bool, valC [1] (ofB c) = cntB c
  | [] => rfl
  | true :: c => by
    show worthN [1] (chI (some 0)) + valC [1] (ofB c) = 1 + cntB c
    rw [ofB_val c]; rfl
  | false :: c => by
    show worthN [1] (chI none) + valC [1] (ofB c) = 0 + cntB c
    rw [ofB_val c]; rfl
theorem ofB_fits {x : List Int} {c : List Bool} (h : FitsB (barsN x x) c) : FitsC [x] (ofB c) := by
  refine ⟨fun o ho => ?_, fun i j o k hij hi hj => ?_⟩
  · obtain ⟨b, _, e⟩ := List.mem_map.mp ho
    cases b with
    | true => cases e; exact Nat.zero_lt_one
    | false => exact nomatch e
  · rw [ofB_at] at hi hj
    cases a : atB c i with
    | false => rw [a] at hi; exact nomatch hi
    | true =>
      cases b : atB c j with
      | false => rw [b] at hj; exact nomatch hj
      | true =>
        rw [a] at hi; rw [b] at hj
        cases hi; cases hj
        exact h i j hij a b
theorem toB {x : List Int} {cs : List (Option Nat)} (h : FitsC [x] cs) : ∃ c, cs = ofB c ∧ FitsB (barsN x x) c := by
  have e : cs = ofB (cs.map Option.isSome) := by
    unfold ofB
    rw [List.map_map]
    refine (List.map_id cs).symm.trans (List.map_congr_left fun o ho => ?_)
    cases o with
    | none => rfl
    | some k =>
      have : k < 1 := h.kind k ho
      obtain rfl : k = 0 := by omega
      rfl
  refine ⟨_, e, fun i j hij hi hj => ?_⟩
  have key : ∀ t, atB (cs.map Option.isSome) t = true → atC cs t = some 0 := fun t ht => by
    rw [e, ofB_at, ht]; rfl
  exact h.free i j 0 0 hij (key i hi) (key j hj)
theorem meanIs_of {x : List Int} {B : Nat} {hi : Int × Int} {cs : List (Option Nat)} {L : List Nat} (hB : IsB B (barsN x x)) (h : BestC [x] [1] hi cs) (h0 : 0 ∈ L) (hE : ∀ u, u ∈ L → ∀ y c, (y, c) ∈ edM B u → y ∈ L) : MeanIs (edM B) 0 L hi.1 hi.2 := by
  refine ⟨h0, hE, fun u n g m s w1 w2 n0 => ?_, ?_⟩
  · obtain ⟨d, hd, _, _⟩ := wk_go w1
    obtain ⟨c, hc, lc, rfl⟩ := wk_go w2
    have := h.top (ofB c) (ofB_fits (closed_fits hB hd hc (by omega))) (fun z => by
      have := congrArg List.length z
      unfold ofB at this
      rw [List.length_map, lc] at this
      rw [List.length_nil] at this; omega)
    rw [ofB_val] at this
    unfold ofB at this
    rw [List.length_map, lc, Int.mul_comm (n : Int)] at this
    exact this
  · obtain ⟨c, rfl, hc⟩ := toB h.fits
    have l0 : 0 < c.length := by
      have := h.len0
      unfold ofB at this
      rw [List.length_map] at this; exact this
    obtain ⟨u, m, s, n, w1, w2, n0⟩ := fits_closed hB h0 hE l0 hc
    refine ⟨u, m, s, _, _, w1, w2, Nat.mul_pos n0 l0, ?_⟩
    have hm := h.mean
    rw [ofB_val] at hm
    unfold ofB at hm
    rw [List.length_map] at hm
    rw [Int.natCast_mul, show hi.2 * ((n : Int) * cntB c) = (n : Int) * (hi.2 * cntB c) by ac_rfl, hm]
    ac_rfl
theorem MeanIs.le1 {B : Nat} {L : List Nat} {t b : Int} (M : MeanIs (edM B) 0 L t b) (b0 : 0 ≤ b) : t ≤ b := by
  obtain ⟨u, m, h, n, g, _, w2, n0, e⟩ := M.hit
  have gn : ∀ {u v n g}, Wk (edM B) u n g v → g ≤ (n : Int) := by
    intro u v n g w
    induction w with
    | nil => exact Int.le_refl _
    | snoc _ e ih =>
      obtain ⟨c, _, rfl⟩ := ed_stM e
      rw [Int.natCast_succ]
      cases c <;> simp <;> omega
  have h1 : b * g ≤ b * (n : Int) := Int.mul_le_mul_of_nonneg_left (gn w2) b0
  rw [e, Int.mul_comm t, Int.mul_comm b] at h1
  exact Int.le_of_mul_le_mul_left h1 (by omega)
theorem MeanIs.ge0 {B : Nat} {L : List Nat} {t b : Int} (M : MeanIs (edM B) 0 L t b) (b0 : 0 ≤ b) : 0 ≤ t := by
  obtain ⟨u, m, h, n, g, _, w2, n0, e⟩ := M.hit
  have gn : ∀ {u v n g}, Wk (edM B) u n g v → 0 ≤ g := by
    intro u v n g w
    induction w with
    | nil => exact Int.le_refl _
    | snoc _ e ih =>
      obtain ⟨c, _, rfl⟩ := ed_stM e
      cases c <;> simp <;> omega
  have h1 : 0 ≤ b * g := Int.mul_nonneg b0 (gn w2)
  rw [e] at h1
  exact Int.le_of_mul_le_mul_right (by rw [Int.zero_mul]; exact h1) (by omega : (0 : Int) < n)
/-! ## the law's fractions: of each node the least growth, of these the greatest -/
structure Least (D : Nat → Nat → Option Int) (N v : Nat) (gN : Int) (n : Nat) (p : Int × Int) : Prop where
  pos : 0 < p.2
  one : p.1 ≤ p.2
  all : ∀ k g, k < n → D k v = some g → p.1 * ((N : Int) - k) ≤ (gN - g) * p.2
  is : p = (1, 1) ∨ ∃ k g, k < n ∧ k < N ∧ D k v = some g ∧ p = (gN - g, (N : Int) - k)
structure Great (D : Nat → Nat → Option Int) (N : Nat) (vs : List Nat) (q : Int × Int) : Prop where
  pos : 0 < q.2
  nn : 0 ≤ q.1
  all : ∀ v, v ∈ vs → ∃ gN p, D N v = some gN ∧ Least D N v gN N p ∧ p.1 * q.2 ≤ q.1 * p.2
  is : q = (0, 1) ∨ ∃ v gN, D N v = some gN ∧ Least D N v gN N q
theorem least_start {D : Nat → Nat → Option Int} {N v : Nat} {gN : Int} : Least D N v gN 0 (1, 1) := ⟨by decide, by decide, fun k g h => absurd h (Nat.not_lt_zero _), .inl rfl⟩
theorem Least.skip {D : Nat → Nat → Option Int} {N v n : Nat} {gN : Int} {p : Int × Int} (h : Least D N v gN n p) (hn : D n v = none) : Least D N v gN (n + 1) p :=
  ⟨h.pos, h.one, fun k g hk hg => by
    by_cases z : k = n
    · rw [z, hn] at hg; exact nomatch hg
    · exact h.all k g (by omega) hg, h.is.imp id fun ⟨k, g, a, b, c, d⟩ => ⟨k, g, by omega, b, c, d⟩⟩
theorem Least.keep {D : Nat → Nat → Option Int} {N v n : Nat} {gN g : Int} {p : Int × Int} (h : Least D N v gN n p) (hn : D n v = some g) (hle : p.1 * ((N : Int) - n) ≤ (gN - g) * p.2) : Least D N v gN (n + 1) p :=
  ⟨h.pos, h.one, fun k g' hk hg => by
    by_cases z : k = n
    · subst z; rw [hn] at hg; obtain rfl := Option.some.inj hg; exact hle
    · exact h.all k g' (by omega) hg, h.is.imp id fun ⟨k, g, a, b, c, d⟩ => ⟨k, g, by omega, b, c, d⟩⟩
theorem cross {a b c d e f : Int} (hd : 0 < d) (h1 : a * d ≤ c * b) (h2 : c * f ≤ e * d) (hb : 0 ≤ b) (hf : 0 ≤ f) : a * f ≤ e * b := by
  have x1 : d * (a * f) ≤ d * (e * b) := by
    calc d * (a * f) = f * (a * d) := by ac_rfl
      _ ≤ f * (c * b) := Int.mul_le_mul_of_nonneg_left h1 hf
      _ = b * (c * f) := by ac_rfl
      _ ≤ b * (e * d) := Int.mul_le_mul_of_nonneg_left h2 hb
      _ = d * (e * b) := by ac_rfl
  exact Int.le_of_mul_le_mul_left x1 hd
theorem Least.take {D : Nat → Nat → Option Int} {N v n : Nat} {gN g : Int} {p : Int × Int} (h : Least D N v gN n p) (nN : n < N) (hn : D n v = some g) (hlt : (gN - g) * p.2 < p.1 * ((N : Int) - n)) : Least D N v gN (n + 1) (gN - g, (N : Int) - n) := by
  have hp := h.pos
  have c0 : (0 : Int) < (N : Int) - n := by omega
  refine ⟨c0, ?_, fun k g' hk hg => ?_, .inr ⟨n, g, Nat.lt_succ_self _, nN, hn, rfl⟩⟩
  · show gN - g ≤ (N : Int) - n
    have h1 := h.one
    have x : p.2 * (gN - g) ≤ p.2 * ((N : Int) - n) := by
      calc p.2 * (gN - g) = (gN - g) * p.2 := Int.mul_comm _ _
        _ ≤ p.1 * ((N : Int) - n) := Int.le_of_lt hlt
        _ ≤ p.2 * ((N : Int) - n) := Int.mul_le_mul_of_nonneg_right h1 (Int.le_of_lt c0)
    exact Int.le_of_mul_le_mul_left x hp
  · show (gN - g) * ((N : Int) - k) ≤ (gN - g') * ((N : Int) - n)
    by_cases z : k = n
    · subst z; rw [hn] at hg; obtain rfl := Option.some.inj hg; exact Int.le_refl _
    · have h2 := h.all k g' (by omega) hg
      exact cross hp (Int.le_of_lt hlt) h2 (Int.le_of_lt c0) (by omega)
theorem great_start {D : Nat → Nat → Option Int} {N : Nat} : Great D N [] (0, 1) := ⟨by decide, by decide, (fun v h => nomatch h), .inl rfl⟩
theorem Great.keep {D : Nat → Nat → Option Int} {N v : Nat} {vs : List Nat} {gN : Int} {p q : Int × Int} (h : Great D N vs q) (hv : D N v = some gN) (hp : Least D N v gN N p) (hle : p.1 * q.2 ≤ q.1 * p.2) : Great D N (vs ++ [v]) q :=
  ⟨h.pos, h.nn, fun u hu => by
    rcases List.mem_append.mp hu with hu | hu
    · exact h.all u hu
    · rw [List.mem_singleton.mp hu]; exact ⟨gN, p, hv, hp, hle⟩, h.is⟩
theorem Great.take {D : Nat → Nat → Option Int} {N v : Nat} {vs : List Nat} {gN : Int} {p q : Int × Int} (h : Great D N vs q) (hv : D N v = some gN) (hp : Least D N v gN N p) (hlt : q.1 * p.2 < p.1 * q.2) : Great D N (vs ++ [v]) p := by
  have q0 := h.pos
  have p0 := hp.pos
  refine ⟨p0, ?_, fun u hu => ?_, .inr ⟨v, gN, hv, hp⟩⟩
  · have h1 : 0 ≤ q.1 * p.2 := Int.mul_nonneg h.nn (Int.le_of_lt p0)
    have h2 : 0 * q.2 ≤ p.1 * q.2 := by rw [Int.zero_mul]; omega
    exact Int.le_of_mul_le_mul_right h2 q0
  · rcases List.mem_append.mp hu with hu | hu
    · obtain ⟨g', p', a, b, c⟩ := h.all u hu
      exact ⟨g', p', a, b, cross q0 c (Int.le_of_lt hlt) (Int.le_of_lt b.pos) (Int.le_of_lt p0)⟩
    · rw [List.mem_singleton.mp hu]; exact ⟨gN, p, hv, hp, Int.le_refl _⟩
/-- so the greatest one is the mean -/
theorem Great.mean {B : Nat} {L : List Nat} {t b : Int} {D : Nat → Nat → Option Int} {vs : List Nat} {q : Int × Int} (M : MeanIs (edM B) 0 L t b) (W : BestWk (edM B) 0 L.length D) (b0 : 0 < b) (h : Great D L.length vs q) (hv : ∀ v g, D L.length v = some g → v ∈ vs) : q.1 * b = t * q.2 := by
  have t0 := M.ge0 (Int.le_of_lt b0)
  have q0 := h.pos
  refine Int.le_antisymm ?_ ?_
  · rcases h.is with rfl | ⟨v, gN, hN, hp⟩
    · show 0 * b ≤ t * 1
      omega
    · obtain ⟨k, g', hk, wk, hle⟩ := M.low (W.is _ _ _ hN)
      obtain ⟨g2, hg2, hg⟩ := W.ex _ _ _ (by omega) wk
      have h1 := hp.all k g2 hk hg2
      have h2 : b * (gN - g2) ≤ b * (gN - g') := Int.mul_le_mul_of_nonneg_left (by omega) (Int.le_of_lt b0)
      have c0 : (0 : Int) < (L.length : Int) - k := by omega
      refine cross c0 h1 ?_ (Int.le_of_lt q0) (Int.le_of_lt b0)
      rw [Int.mul_comm (gN - g2)]
      exact Int.le_trans h2 hle
  · obtain ⟨v, gN, hN, hall⟩ := M.high W (Int.le_of_lt b0)
    obtain ⟨g', p, hN', hp, hle⟩ := h.all v (hv _ _ hN)
    rw [hN] at hN'
    obtain rfl := Option.some.inj hN'
    rcases hp.is with rfl | ⟨k, g, _, hk, hg, rfl⟩
    · have h1 := M.le1 (Int.le_of_lt b0)
      have h2 : 1 * q.2 ≤ q.1 * 1 := hle
      rw [Int.one_mul, Int.mul_one] at h2
      calc t * q.2 ≤ b * q.2 := Int.mul_le_mul_of_nonneg_right h1 (Int.le_of_lt q0)
        _ ≤ b * q.1 := Int.mul_le_mul_of_nonneg_left h2 (Int.le_of_lt b0)
        _ = q.1 * b := Int.mul_comm _ _
    · have h1 := hall k g hg
      have c0 : (0 : Int) < (L.length : Int) - k := by omega
      refine cross c0 ?_ hle (Int.le_of_lt b0) (Int.le_of_lt q0)
      rw [Int.mul_comm (gN - g)]
      exact h1
end Sg
set_option Elab.async false
set_option linter.all false
set_option maxRecDepth 100000
set_option maxHeartbeats 4000000
namespace Sg
open PySem PySem.Spec PyProof.Rows L2 StX
section
variable {P : Program} {w : World} {K : PySem.W.Frag} {mg : Str → Option Value} {base : Heap}
/-! ### _law_same -/
theorem ok_l_same {f : Addr} {fd : FuncData} {k : Nat} (F : Fun K "_law_same" "_law_same" s_l_same f fd) (m1 : mg "repr" = none) :
    FnG P w K mg base (k + 1) f fd ["_law_found", "_law_due"] (spSame K) := by
  refine fnG_mk F sc_l_same (fun vs H Q h => ?_) (fun cdv A outer s H vs Q hg hr h => ?_)
  · obtain ⟨a, b, d, rfl, _⟩ := h; rfl
  · obtain ⟨a, b, d, rfl, h1, h2, hd, q⟩ := h
    refine ⟨_, pss_one (ps_ret (pe_cmpR op_eq (pe_callB (call_reprD hg hr) (by rfl) m1 (by decide +kernel) (pa_cons (pv 0) pa_nil))
      (pe_callB (call_reprD hg hr) (by rfl) m1 (by decide +kernel) (pa_cons (pv 1) pa_nil)) (nomark _))), ?_⟩
    refine ⟨.ref a, rfl, a, d, rfl, h1, hd, .ref b, rfl, b, d, rfl, h2, hd, rfl, ?_⟩
    rw [decide_eq_true rfl]
    exact q
/-! ### _law_pick -/
def spPick : Sp := fun vs H Q _ => ∃ (p l : Addr) (ns : List Int), vs = [.ref p, .ref l] ∧ PenAt H p ∧ l ≠ p ∧ H l = some (.lst (ns.map V.int)) ∧ 0 < ns.length ∧ ns.length < 1000000 ∧
  ∀ H' n, n ∈ ns → PenAt H' p → But p H H' → Q (.int n) H'
theorem ok_pick {f f1 : Addr} {fd fd1 : FuncData} {k : Nat} (F : Fun K "_law_pick" "_law_pick" s_l_pick f fd)
    (G1 : FnOk P w K mg base CX0 k f1 fd1 ["_law_pen_here", "_law_many"] spDraw) (kp1 : PySem.W.keepIn K (.ref f1) = true) (b1 : Binds K fd1 ["_law_pen_here", "_law_many"] []) (g1 : mg "_law_draw" = some (.ref f1))
    (m1 : mg "len" = none) : FnOk P w K mg base CX0 (k + 1) f fd ["_law_pen_here", "_law_some"] spPick := by
  refine F.ok sc_l_pick (fun vs H Q E h => ?_) (fun cdv A outer s H vs Q E hr h => ?_)
  · obtain ⟨p, l, ns, rfl, _⟩ := h; rfl
  · obtain ⟨p, l, ns, rfl, hp, nlp, hl, z0, z1, q⟩ := h
    refine ⟨_, pss_one (ps_ret (pe_ix ix_list (pv 1) (pe_call G1 hr (by rfl) g1 kp1 b1 .nil pass0 (pa_cons (pv 0) (pa_cons (pe_callB call_len_seq (by rfl) m1 PySem.boot_len (pa_cons (pv 1) pa_nil)) pa_nil))) (fun _ _ => rfl))), ?_⟩
    have len : (ns.map V.int).length = ns.length := List.length_map _
    refine ⟨.ref l, rfl, .ref p, rfl, .ref l, rfl, l, _, rfl, .inl (.of hl), p, _, rfl, hp, by rw [len]; omega, by rw [len]; omega, fun H' r r0 r1 p' b' => ?_⟩
    rw [len] at r1
    obtain ⟨j, rfl⟩ : ∃ j : Nat, r = j := ⟨r.toNat, by omega⟩
    have hj : j < ns.length := by omega
    refine ⟨l, _, (j : Int), .int ns[j], rfl, rfl, .of (b' _ _ nlp hl), atI_nat ?_, q H' ns[j] (List.getElem_mem hj) p' b'⟩
    rw [List.getElem?_map, List.getElem?_eq_getElem hj]
    rfl
end
theorem set_at2 {l : List Int} {i t : Nat} {z x : Int} (h : (l.set i z)[t]? = some x) : (i = t ∧ z = x) ∨ l[t]? = some x := by
  by_cases e : i = t
  · subst e
    have hl := (List.getElem?_eq_some_iff.mp h).1
    rw [List.length_set] at hl
    rw [List.getElem?_set_self hl] at h
    exact .inl ⟨rfl, Option.some.inj h⟩
  · rw [List.getElem?_set_ne e] at h
    exact .inr h
/-! ## works whose bars are near -/
/-- what stands at a tick is one of three stations of its stretch -/
def Blk (nn : List Int) (far : Int) (ns : List Int) : Prop := ∀ (t : Nat) (x : Int), ns[t]? = some x → x = -1 ∨ ∃ (r : Int) (j : Nat), 0 ≤ r ∧ r < 3 ∧ 3 * ((t : Int) / (far + 1)) + r = j ∧ nn[j]? = some x
theorem Blk.add {nn ns : List Int} {far z : Int} {i : Nat} (h : Blk nn far ns) (l : ns.length = i) (hz : z = -1 ∨ ∃ (r : Int) (j : Nat), 0 ≤ r ∧ r < 3 ∧ 3 * ((0 + (i : Int)) / (far + 1)) + r = j ∧ nn[j]? = some z) : Blk nn far (ns ++ [z]) := by
  intro t x hx
  rcases Nat.lt_or_ge t ns.length with g | g
  · rw [List.getElem?_append_left g] at hx
    exact h t x hx
  · rw [List.getElem?_append_right g] at hx
    have e : t - ns.length = 0 := by
      have := (List.getElem?_eq_some_iff.mp hx).1
      rw [List.length_singleton] at this
      omega
    rw [e] at hx
    obtain rfl : z = x := Option.some.inj hx
    rw [show (t : Int) = 0 + (i : Int) by omega]
    exact hz
theorem Blk.set {nn ns : List Int} {far z : Int} {i : Nat} (h : Blk nn far ns) (hz : ∃ (r : Int) (j : Nat), 0 ≤ r ∧ r < 3 ∧ 3 * ((i : Int) / (far + 1)) + r = j ∧ nn[j]? = some z) : Blk nn far (ns.set i z) := by
  intro t x hx
  rcases set_at2 hx with ⟨rfl, rfl⟩ | g
  · exact .inr hz
  · exact h t x g
/-- all stations are unlike -/
def Unlike (nn : List Int) : Prop := ∀ (i j : Nat) (x : Int), nn[i]? = some x → nn[j]? = some x → i = j
theorem Blk.near {nn ns : List Int} {far x : Int} (h : Blk nn far ns) (u : Unlike nn) (f0 : 0 ≤ far) {i d : Nat} (hi : ns[i]? = some x) (hj : ns[d + i]? = some x) (hx : x ≠ -1) : (d : Int) ≤ far := by
  rcases h i x hi with z | ⟨r, j, r0, r1, e, ej⟩
  · exact absurd z hx
  rcases h _ x hj with z | ⟨r', j', r0', r1', e', ej'⟩
  · exact absurd z hx
  obtain rfl := u j j' x ej ej'
  have q : (i : Int) / (far + 1) = ((d + i : Nat) : Int) / (far + 1) := by omega
  have a := Int.mul_ediv_add_emod (i : Int) (far + 1)
  have b := Int.mul_ediv_add_emod ((d + i : Nat) : Int) (far + 1)
  have c := Int.emod_nonneg (i : Int) (show far + 1 ≠ 0 by omega)
  have g := Int.emod_lt_of_pos ((d + i : Nat) : Int) (show (0 : Int) < far + 1 by omega)
  rw [q] at a
  generalize (far + 1) * (((d + i : Nat) : Int) / (far + 1)) = m at a b
  omega
/-- ten stations, each a step behind the one before -/
abbrev nameAt (fi st : Int) (i : Nat) : Int := (fi + st * (0 + (i : Int))) % 10
theorem names_unlike {fi st : Int} (hs : st ∈ ([1, 3, 7, 9] : List Int)) : Unlike ((List.range 10).map (nameAt fi st)) := by
  intro i j x hi hj
  rw [List.getElem?_map] at hi hj
  obtain ⟨a, ha, e1⟩ := Option.map_eq_some_iff.mp hi
  obtain ⟨b, hb, e2⟩ := Option.map_eq_some_iff.mp hj
  obtain ⟨hi1, rfl⟩ := List.getElem?_eq_some_iff.mp ha
  obtain ⟨hj1, rfl⟩ := List.getElem?_eq_some_iff.mp hb
  rw [List.getElem_range] at e1 e2
  rw [List.length_range] at hi1 hj1
  unfold nameAt at e1 e2
  simp only [List.mem_cons, List.not_mem_nil, or_false] at hs
  rcases hs with rfl | rfl | rfl | rfl <;> omega
section
variable {P : Program} {w : World} {K : PySem.W.Frag} {mg : Str → Option Value} {base : Heap}
/-! ### _law_names -/
def spNames : Sp := fun vs H Q _ => ∃ (p : Addr), vs = [.ref p] ∧ PenAt H p ∧
  ∀ H' q (ns : List Int), PenAt H' p → But p H H' → H q = none → q ≠ p → H' q = some (.lst (ns.map V.int)) → ns.length = 10 → (∀ x ∈ ns, 0 ≤ x ∧ x ≤ 9) → Unlike ns → Q (.ref q) H'
theorem ok_names {f f1 f2 : Addr} {fd fd1 fd2 : FuncData} {k : Nat} (F : Fun K "_law_names" "_law_names" s_l_names f fd)
    (G1 : FnOk P w K mg base CX0 k f1 fd1 ["_law_pen_here", "_law_many"] spDraw) (kp1 : PySem.W.keepIn K (.ref f1) = true) (b1 : Binds K fd1 ["_law_pen_here", "_law_many"] []) (g1 : mg "_law_draw" = some (.ref f1))
    (G2 : FnOk P w K mg base CX0 k f2 fd2 ["_law_pen_here", "_law_some"] spPick) (kp2 : PySem.W.keepIn K (.ref f2) = true) (b2 : Binds K fd2 ["_law_pen_here", "_law_some"] []) (g2 : mg "_law_pick" = some (.ref f2))
    (m1 : mg "range" = none) : FnOk P w K mg base CX0 (k + 1) f fd ["_law_pen_here"] spNames := by
  refine F.ok sc_l_names (fun vs H Q E h => ?_) (fun cdv A outer s H vs Q E hr h => ?_)
  · obtain ⟨p, rfl, _⟩ := h; rfl
  · obtain ⟨p, rfl, hp, q⟩ := h
    refine ⟨_, pss_cons (ps_asg (pe_tup (pa_cons (pe_call G1 hr (by rfl) g1 kp1 b1 .nil pass0 (pa_cons (pv 0) (pa_cons pe_int pa_nil)))
          (pa_cons (pe_call G2 hr (by rfl) g2 kp2 b2 .nil pass0 (pa_cons (pv 0) (pa_cons (pe_lst (pa_cons pe_int (pa_cons pe_int (pa_cons pe_int (pa_cons pe_int pa_nil))))) pa_nil))) pa_nil)))
        (pg_tup rfl (pgs_cons (pg_name (i := 1) sc_l_names.nd rfl (.inr rfl)) (pgs_cons (pg_name (i := 2) sc_l_names.nd rfl (.inr rfl)) pgs_nil))))
      (pss_one (ps_ret (pe_lc (own := [("_law_at", 3)]) (g := gName 3) (tt := tYes) rfl sc_l_names.nd (pi_range1 (by rfl) m1 (pa_cons pe_int pa_nil)) (blkOk_by (N := ["_law_pen_here", "_law_first", "_law_step", "_law_at"]) (sc := defScope s_l_names) (by decide +kernel))
        (fun _ _ _ _ _ => pg_name (i := 3) sc_l_names.nd rfl (Or.inl rfl)) (fun _ _ _ _ _ => pts_nil)
        (fun _ _ _ _ _ => pe_op op_mod (pe_op op_add (pv 1) (pe_op op_mul (pv 2) (pv 3))) pe_int)))), ?_⟩
    refine ⟨.ref p, rfl, p, 10, rfl, hp, by decide, by decide, fun H1 fi fi0 fi1 p1 b1' => ?_⟩
    refine ⟨.ref p, rfl, by show 4 ≤ sizeLine; decide, fun l nl => ⟨p, l, [1, 3, 7, 9], rfl, p1.new nl, (p1.ne nl).symm, upd_same, by decide, by decide, fun H2 st hst p2 b2' => ?_⟩⟩
    have c2 : But p H H2 := (b1'.trans (.of (same_new nl))).trans b2'
    have hst1 : 1 ≤ st ∧ st ≤ 9 := by
      have h4 : ∀ z ∈ ([1, 3, 7, 9] : List Int), 1 ≤ z ∧ z ≤ 9 := by decide
      exact h4 st hst
    refine ⟨by show 2 ≤ sizeLine; decide, fun T nT => ⟨T, _, rfl, .of upd_same, rfl, _, _, rfl, _, _, rfl, rfl, ?_⟩⟩
    have c3 : But p H (upd H2 T (.tup [V.int fi, .int st])) := c2.trans (.of (same_new nT))
    have p3 := p2.new (o := .tup [V.int fi, .int st]) nT
    generalize upd H2 T (.tup [V.int fi, .int st]) = H3 at c3 p3 ⊢
    refine ⟨10, rfl, by decide, by decide, fun D hD => ?_⟩
    have nDp : D ≠ p := (p3.ne hD).symm
    have nDH : H D = none := hp.free p3 c3 hD
    refine lc_range (lo := 0) (n := 10) (fun i H' => PenAt H' p ∧ But p H H' ∧ ∃ ns : List Int, H' D = some (.lst (ns.map V.int)) ∧ ns.length = i ∧ (∀ x ∈ ns, 0 ≤ x ∧ x ≤ 9) ∧ ns = (List.range i).map (nameAt fi st)) ⟨p3.new hD, c3.trans (.of (same_new hD)), [], upd_same, rfl, (fun x hx => nomatch hx), rfl⟩ (fun i H' hi h => ?_) (fun H' h => ?_)
    · obtain ⟨p4, c4, ns, hD4, l4, i4, e4⟩ := h
      refine ⟨rfl, .int fi, rfl, .int st, rfl, .int (0 + (i : Nat)), rfl, st, 0 + (i : Nat), rfl, rfl, .inl ⟨by omega, by omega⟩, _, _, rfl, rfl, _, 10, rfl, rfl, by show (0 : Int) < 10; decide, _, hD4, ?_, p4.upd nDp.symm, fun b o nb e => ?_, ns ++ [(fi + st * (0 + (i : Int))) % 10], ?_, ?_, fun x hx => ?_, by rw [e4, List.range_succ, List.map_append]; rfl⟩
      · rw [List.length_map]; exact small1000 (by omega)
      · rw [upd_ne (ne_of_none e nDH)]
        exact c4 _ _ nb e
      · rw [upd_same, List.map_append]; rfl
      · rw [List.length_append]; show ns.length + 1 = _; omega
      · rcases List.mem_append.mp hx with h | h
        · exact i4 x h
        · rw [List.mem_singleton.mp h]
          have h1 := Int.emod_nonneg (fi + st * (0 + (i : Int))) (show (10 : Int) ≠ 0 by decide)
          have h2 := Int.emod_lt_of_pos (fi + st * (0 + (i : Int))) (show (0 : Int) < 10 by decide)
          exact ⟨h1, Int.le_of_lt_add_one h2⟩
    · obtain ⟨p4, c4, ns, hD4, l4, i4, e4⟩ := h
      exact q _ D ns p4 c4 nDH nDp hD4 l4 i4 (by rw [e4]; exact names_unlike hst)
/-! ### _law_work -/
def spLWork : Sp := fun vs H Q _ => ∃ (p l : Addr) (nn : List Int) (far bl : Int), vs = [.ref p, .ref l, .int far, .int bl] ∧ PenAt H p ∧ l ≠ p ∧ H l = some (.lst (nn.map V.int)) ∧ nn.length = 10 ∧ (∀ x ∈ nn, 0 ≤ x ∧ x ≤ 9) ∧ 0 ≤ far ∧ far ≤ 19 ∧ 1 ≤ bl ∧ bl ≤ 3 ∧
  ∀ H' t (ns : List Int), PenAt H' p → But p H H' → H t = none → H' t = some (.tup (ns.map V.int)) → IsWork ns → Blk nn far ns → Q (.ref t) H'
theorem ok_lwork {f f1 f2 : Addr} {fd fd1 fd2 : FuncData} {k : Nat} (F : Fun K "_law_work" "_law_work" s_l_work f fd)
    (G1 : FnOk P w K mg base CX0 k f1 fd1 ["_law_pen_here", "_law_many"] spDraw) (kp1 : PySem.W.keepIn K (.ref f1) = true) (b1 : Binds K fd1 ["_law_pen_here", "_law_many"] []) (g1 : mg "_law_draw" = some (.ref f1))
    (G2 : FnOk P w K mg base CX0 k f2 fd2 ["_law_pen_here", "_law_some"] spPick) (kp2 : PySem.W.keepIn K (.ref f2) = true) (b2 : Binds K fd2 ["_law_pen_here", "_law_some"] []) (g2 : mg "_law_pick" = some (.ref f2))
    (m1 : mg "range" = none) (m2 : mg "tuple" = none) (m3 : mg "len" = none) : FnOk P w K mg base CX0 (k + 1) f fd ["_law_pen_here", "_law_names_here", "_law_far", "_law_blocks"] spLWork := by
  refine F.ok sc_l_work (fun vs H Q E h => ?_) (fun cdv A outer s H vs Q E hr h => ?_)
  · obtain ⟨p, l, nn, far, bl, rfl, _⟩ := h; rfl
  · obtain ⟨p, l, nn, far, bl, rfl, hp, nlp, hl, lnn, inn, hf0, hf1, hb0, hb1, q⟩ := h
    refine ⟨_, pss_cons (ps_par (i := 4) (j := 5) (by rfl) sc_l_work.nd rfl rfl (by decide) rfl rfl (pa_cons (pe_op op_add pe_int (pe_call G1 hr (by rfl) g1 kp1 b1 .nil pass0 (pa_cons (pv 0) (pa_cons pe_int pa_nil))))
          (pa_cons (pe_call G2 hr (by rfl) g2 kp2 b2 .nil pass0 (pa_cons (pv 0) (pa_cons (pe_lst (pa_cons pe_int (pa_cons pe_int (pa_cons pe_int (pa_cons pe_int pa_nil))))) pa_nil))) pa_nil)) (by rfl))
      (pss_cons (ps_set (i := 6) sc_l_work.nd rfl (.inl rfl) (pe_lst pa_nil))
      (pss_cons (ps_for PassesOwn.never rfl (pi_range1 (by rfl) m1 (pa_cons (pe_op op_add pe_int (pe_call G1 hr (by rfl) g1 kp1 b1 .nil pass0 (pa_cons (pv 0) (pa_cons (pe_op op_mul (pv 3) (pe_op op_add (pv 2) pe_int)) pa_nil)))) pa_nil)) (pg_name (i := 7) sc_l_work.nd rfl (.inl rfl))
        (pss_cons (ps_set (i := 8) sc_l_work.nd rfl (.inl rfl) (pe_ix ix_list (pv 1) (pe_op op_add (pe_op op_mul pe_int (pe_op op_fdiv (pv 7) (pe_op op_add (pv 2) pe_int))) (pe_call G1 hr (by rfl) g1 kp1 b1 .nil pass0 (pa_cons (pv 0) (pa_cons (pv 4) pa_nil)))) (fun _ _ => rfl)))
        (pss_one (ps_expr (pe_bm PySem.F.plainAttrs_list PySem.F.slot_list_append PySem.F.type_list_append mt_append (pv 6)
          (pa_cons (pe_ifExp (pt_cmpR op_eq (pe_call G1 hr (by rfl) g1 kp1 b1 .nil pass0 (pa_cons (pv 0) (pa_cons (pv 5) pa_nil))) pe_int (nomark _)) (pv 8) (pe_un un_neg pe_int)) pa_nil))))))
      (pss_cons (ps_if (pt_cmpR op_eq (pe_ix ix_list (pv 6) pe_int (fun _ _ => rfl)) (pe_un un_neg pe_int) (nomark _))
        (pss_one (ps_asg (pe_ix ix_list (pv 1) pe_int (fun _ _ => rfl)) (pg_sub (pv 6) pe_int set_list))) pss_nil)
      (pss_cons (ps_if (pt_cmpR op_eq (pe_ix ix_list (pv 6) (pe_un un_neg pe_int) (fun _ _ => rfl)) (pe_un un_neg pe_int) (nomark _))
        (pss_one (ps_asg (pe_ix ix_list (pv 1) (pe_op op_mul pe_int (pe_op op_fdiv (pe_op op_sub (pe_callB call_len_seq (by rfl) m3 PySem.boot_len (pa_cons (pv 6) pa_nil)) pe_int) (pe_op op_add (pv 2) pe_int))) (fun _ _ => rfl)) (pg_sub (pv 6) (pe_un un_neg pe_int) set_list))) pss_nil)
      (pss_one (ps_ret (pe_callTy call_tuple_of (by rfl) m2 (by decide +kernel) (pa_cons (pv 6) pa_nil)))))))), ?_⟩
    refine ⟨.ref p, rfl, p, 3, rfl, hp, by decide, by decide, fun H1 ma ma0 ma1 p1 b1' => ⟨1, ma, rfl, rfl, ?_⟩⟩
    refine ⟨.ref p, rfl, by show 4 ≤ sizeLine; decide, fun l2 nl2 => ⟨p, l2, [1, 1, 2, 4], rfl, p1.new nl2, (p1.ne nl2).symm, upd_same, by decide, by decide, fun H2 ra hra p2 b2' => ⟨_, _, rfl, ?_⟩⟩⟩
    have c2 : But p H H2 := (b1'.trans (.of (same_new nl2))).trans b2'
    have hra1 : 1 ≤ ra ∧ ra ≤ 4 := by
      have h4 : ∀ z ∈ ([1, 1, 2, 4] : List Int), 1 ≤ z ∧ z ≤ 4 := by decide
      exact h4 ra hra
    clear b1' b2'
    refine ⟨by show 0 ≤ sizeLine; decide, fun I nI => ?_⟩
    have c3 : But p H (upd H2 I (.lst [])) := c2.trans (.of (same_new nI))
    have hI3 : (upd H2 I (.lst [])) I = some (.lst []) := upd_same
    have p3 := p2.new (o := .lst []) nI
    have nIp : I ≠ p := (p2.ne nI).symm
    have nIH : H I = none := hp.free p2 c2 nI
    have nlI : l ≠ I := ne_of_none hl nIH
    generalize upd H2 I (.lst []) = H3 at c3 hI3 p3 ⊢
    have hbf : bl * (far + 1) ≤ 3 * (far + 1) := Int.mul_le_mul_of_nonneg_right hb1 (by omega)
    have hbf0 : 0 < bl * (far + 1) := Int.mul_pos (by omega) (by omega)
    refine ⟨.ref p, rfl, .int bl, rfl, .int far, rfl, far, 1, rfl, rfl, bl, far + 1, rfl, rfl, .inl ⟨by omega, by omega⟩, p, bl * (far + 1), rfl, p3, hbf0, by omega, fun H4 c c0 c1 p4 b4 => ⟨1, c, rfl, rfl, 1 + c, rfl, by omega, by omega, ?_⟩⟩
    have c4 := c3.trans b4
    have hI4 := b4 _ _ nIp hI3
    refine for_range (lo := 0) (n := (1 + c).toNat) (fun i σ H' => ∃ v7 v8, σ = [some (.ref p), some (.ref l), some (.int far), some (.int bl), some (.int (1 + ma)), some (.int ra), some (.ref I), v7, v8] ∧ PenAt H' p ∧ But p H H' ∧
        ∃ ns : List Int, H' I = some (.lst (ns.map V.int)) ∧ ns.length = i ∧ (∀ x ∈ ns, -1 ≤ x ∧ x ≤ 9) ∧ Blk nn far ns) ⟨_, _, rfl, p4, c4, [], hI4, rfl, (fun x hx => nomatch hx), (fun t x hx => nomatch hx)⟩ ?_ ?_
    · rintro i σ H5 hi ⟨v7, v8, rfl, p5, c5, ns, hI5, l5, i5, k5⟩
      have hl5 := c5 _ _ nlp hl
      have hq0 : 0 ≤ (0 + (i : Int)) / (far + 1) := Int.ediv_nonneg (by omega) (by omega)
      have hq1 : (0 + (i : Int)) / (far + 1) < 3 := Int.ediv_lt_of_lt_mul (by omega) (by omega)
      refine ⟨.ref l, rfl, .int (0 + (i : Nat)), rfl, .int far, rfl, far, 1, rfl, rfl, 0 + (i : Nat), far + 1, rfl, rfl, ⟨by omega, by omega⟩, 3, _, rfl, rfl, .inl (by decide), .ref p, rfl, .int (1 + ma), rfl, p, 1 + ma, rfl, p5, by omega, by omega, fun H6 r r0 r1 p6 b6 => ⟨_, _, rfl, rfl, ?_⟩⟩
      obtain ⟨j, hj, hj10⟩ : ∃ j : Nat, 3 * ((0 + (i : Int)) / (far + 1)) + r = j ∧ j < nn.length := ⟨(3 * ((0 + (i : Int)) / (far + 1)) + r).toNat, by omega, by omega⟩
      have hl6 := b6 _ _ nlp hl5
      have hI6 := b6 _ _ nIp hI5
      have gj : (nn.map V.int)[j]? = some (.int nn[j]) := by rw [List.getElem?_map, List.getElem?_eq_getElem hj10]; rfl
      have hx := inn nn[j] (List.getElem_mem hj10)
      refine ⟨l, _, (j : Int), .int nn[j], rfl, congrArg V.int hj, .of hl6, atI_nat gj, ?_⟩
      refine ⟨.ref I, rfl, .inl ⟨rfl, _, .of hI6⟩, .ref p, rfl, .int ra, rfl, p, ra, rfl, p6, by omega, by omega, fun H7 r7 _ _ p7 b7 => ?_⟩
      have hI7 := b7 _ _ nIp hI6
      have lns : (ns.map V.int).length < sizeLine := by rw [List.length_map]; exact small1000 (by omega)
      have fin : ∀ z : Int, -1 ≤ z → z ≤ 9 → Blk nn far (ns ++ [z]) → PenAt (L2.upd H7 I (.lst (ns.map V.int ++ [V.int z]))) p ∧ But p H (L2.upd H7 I (.lst (ns.map V.int ++ [V.int z]))) ∧
          ∃ ns' : List Int, (L2.upd H7 I (.lst (ns.map V.int ++ [V.int z]))) I = some (.lst (ns'.map V.int)) ∧ ns'.length = i + 1 ∧ (∀ x ∈ ns', -1 ≤ x ∧ x ≤ 9) ∧ Blk nn far ns' := by
        intro z z1 z2 kz
        refine ⟨p7.upd nIp.symm, fun b o n e => ?_, ns ++ [z], ?_, ?_, fun x hx => ?_, kz⟩
        · rw [upd_ne (ne_of_none e nIH)]
          exact b7 _ _ n (b6 _ _ n (c5 _ _ n e))
        · rw [upd_same, List.map_append]; rfl
        · rw [List.length_append]; show ns.length + 1 = _; omega
        · rcases List.mem_append.mp hx with h | h
          · exact i5 x h
          · rw [List.mem_singleton.mp h]; exact ⟨z1, z2⟩
      refine ⟨rfl, _, rfl, ite2 (fun _ => ?_) (fun _ => ?_)⟩
      · exact ⟨.int nn[j], rfl, I, _, _, rfl, rfl, hI7, lns, _, _, rfl, fin _ (by omega) (by omega) (k5.add l5 (.inr ⟨r, j, r0, by omega, hj, List.getElem?_eq_getElem hj10⟩))⟩
      · exact ⟨1, rfl, I, _, _, rfl, rfl, hI7, lns, _, _, rfl, fin (-1) (by decide) (by decide) (k5.add l5 (.inl rfl))⟩
    · rintro σ H5 ⟨v7, v8, rfl, p5, c5, ns, hI5, l5, i5, k5⟩
      have ln1 : 1 ≤ ns.length := by omega
      have ln2 : ns.length ≤ 60 := by omega
      have lm : (ns.map V.int).length = ns.length := List.length_map _
      have hl5 := c5 _ _ nlp hl
      -- the last step: from any list of such items
      have last : ∀ (H' : Hp) (gs : List Int), PenAt H' p → But p H H' → H' I = some (.lst (gs.map V.int)) → gs.length = ns.length → (∀ x ∈ gs, -1 ≤ x ∧ x ≤ 9) → (∀ x, gs[0]? = some x → x ≠ -1) → (∀ x, gs[gs.length - 1]? = some x → x ≠ -1) → Blk nn far gs →
          ∃ v, (some (some (V.ref I)) : Option (Option V)) = some (some v) ∧ ∃ (q0 : Addr) (ys : List V), [v] = [V.ref q0] ∧ ((SqL K H' q0 ys ∧ ∀ l, H' l = none → Q (.ref l) (L2.upd H' l (.tup ys))) ∨ (SqT K H' q0 ys ∧ Q (.ref q0) H')) := by
        intro H' gs pg cg hg lg ig h0 hL kg
        exact ⟨_, rfl, I, _, rfl, .inl ⟨.of hg, fun t nt => q _ t gs (pg.new nt) (cg.trans (.of (same_new nt))) (hp.free pg cg nt) upd_same ⟨by omega, by omega, ig, h0, hL⟩ kg⟩⟩
      have h00 : (ns.map V.int)[0]? = some (.int ns[0]) := by rw [List.getElem?_map, List.getElem?_eq_getElem (by omega)]; rfl
      have n0 : (nn.map V.int)[0]? = some (.int nn[0]) := by rw [List.getElem?_map, List.getElem?_eq_getElem (by omega)]; rfl
      have hn0 := inn nn[0] (List.getElem_mem (by omega))
      refine ⟨.ref I, rfl, I, _, 0, .int ns[0], rfl, rfl, .of hI5, atI_nat h00, 1, rfl, rfl, _, rfl, ite2 (fun eq => ?a) (fun ne => ?b)⟩
      case' a =>
        refine ⟨.ref l, rfl, l, _, 0, .int nn[0], rfl, rfl, .of hl5, atI_nat n0, .ref I, rfl, I, _, 0, 0, rfl, rfl, hI5, ixN_nat (j := 0) (by rw [lm]; omega), ?_⟩
        rw [show (ns.map V.int).set 0 (.int nn[0]) = (ns.set 0 nn[0]).map V.int from by rw [List.map_set]]
        have hI6 : (L2.upd H5 I (.lst ((ns.set 0 nn[0]).map V.int))) I = some (.lst ((ns.set 0 nn[0]).map V.int)) := upd_same
        have p6 := p5.upd (o := .lst ((ns.set 0 nn[0]).map V.int)) nIp.symm
        have c6 : But p H (L2.upd H5 I (.lst ((ns.set 0 nn[0]).map V.int))) := fun b o n e => by
          rw [upd_ne (ne_of_none e nIH)]
          exact c5 _ _ n e
        have lg : (ns.set 0 nn[0]).length = ns.length := List.length_set
        have ig : ∀ x ∈ ns.set 0 nn[0], -1 ≤ x ∧ x ≤ 9 := fun x hx => by
          rcases mem_set hx with h | h
          · omega
          · exact i5 x h
        have h0 : ∀ x, (ns.set 0 nn[0])[0]? = some x → x ≠ -1 := fun x hx => by
          rcases set_at hx with h | ⟨h, _⟩
          · omega
          · exact absurd rfl h
        have kg : Blk nn far (ns.set 0 nn[0]) := k5.set ⟨0, 0, by decide, by decide, by rw [show ((0 : Nat) : Int) = 0 from rfl, Int.zero_ediv]; rfl, List.getElem?_eq_getElem (by omega)⟩
        generalize ns.set 0 nn[0] = gs at hI6 p6 c6 lg ig h0 kg ⊢
        generalize L2.upd H5 I (.lst (gs.map V.int)) = H6 at hI6 p6 c6 ⊢
      case' b =>
        obtain ⟨gs, hgs⟩ : ∃ gs, gs = ns := ⟨ns, rfl⟩
        have h0 : ∀ x, gs[0]? = some x → x ≠ -1 := fun x hx e => by
          subst e
          rw [hgs, List.getElem?_eq_getElem (by omega)] at hx
          exact ne (decide_eq_true (congrArg V.int (Option.some.inj hx)))
        have hI6 : H5 I = some (.lst (gs.map V.int)) := by rw [hgs]; exact hI5
        have p6 := p5
        have c6 := c5
        have lg : gs.length = ns.length := by rw [hgs]
        have ig : ∀ x ∈ gs, -1 ≤ x ∧ x ≤ 9 := by rw [hgs]; exact i5
        have kg : Blk nn far gs := by rw [hgs]; exact k5
      all_goals
        have hl6 := c6 _ _ nlp hl
        have lgm : (gs.map V.int).length = gs.length := List.length_map _
        have hlt : gs.length - 1 < gs.length := by omega
        have hat : atI (gs.map V.int) (-1) = some (.int gs[gs.length - 1]) := by
          unfold atI
          rw [lgm, ixN_end (by omega)]
          show (gs.map V.int)[gs.length - 1]? = _
          rw [List.getElem?_map, List.getElem?_eq_getElem hlt]
          rfl
        refine ⟨.ref I, rfl, 1, rfl, I, _, -1, .int gs[gs.length - 1], rfl, rfl, .of hI6, hat, 1, rfl, rfl, _, rfl, ite2 (fun eq => ?_) (fun ne2 => ?_)⟩
        · have hq0 : 0 ≤ ((gs.length : Int) - 1) / (far + 1) := Int.ediv_nonneg (by omega) (by omega)
          have hq1 : ((gs.length : Int) - 1) / (far + 1) < 3 := Int.ediv_lt_of_lt_mul (by omega) (by omega)
          obtain ⟨j, hj, hj10⟩ : ∃ j : Nat, 3 * (((gs.length : Int) - 1) / (far + 1)) = j ∧ j < nn.length := ⟨(3 * (((gs.length : Int) - 1) / (far + 1))).toNat, by omega, by omega⟩
          have gj : (nn.map V.int)[j]? = some (.int nn[j]) := by rw [List.getElem?_map, List.getElem?_eq_getElem hj10]; rfl
          have hx := inn nn[j] (List.getElem_mem hj10)
          refine ⟨.ref l, rfl, .ref I, rfl, I, _, rfl, .inl (.of hI6), _, 1, rfl, rfl, .int far, rfl, far, 1, rfl, rfl, _, far + 1, rfl, rfl, ⟨by omega, by omega⟩, 3, _, rfl, rfl, .inl (by decide), l, _, (j : Int), .int nn[j], rfl, ?_, .of hl6, atI_nat gj, ?_⟩
          · rw [← hj, lgm]
          refine ⟨.ref I, rfl, 1, rfl, I, _, -1, gs.length - 1, rfl, rfl, hI6, by rw [lgm]; exact ixN_end (by omega), ?_⟩
          rw [show (gs.map V.int).set (gs.length - 1) (.int nn[j]) = (gs.set (gs.length - 1) nn[j]).map V.int from by rw [List.map_set]]
          refine last _ (gs.set (gs.length - 1) nn[j]) (p6.upd nIp.symm) (fun b o n e => ?_) upd_same (by rw [List.length_set]; exact lg) (fun y hy => ?_) (fun y hy => ?_) (fun y hy => ?_) (kg.set ⟨0, j, by decide, by decide, by rw [show ((gs.length - 1 : Nat) : Int) = (gs.length : Int) - 1 by omega, Int.add_zero]; exact hj, List.getElem?_eq_getElem hj10⟩)
          · rw [upd_ne (ne_of_none e nIH)]
            exact c6 _ _ n e
          · rcases mem_set hy with h | h
            · omega
            · exact ig y h
          · rcases set_at hy with h | ⟨_, h⟩
            · omega
            · exact h0 y h
          · rw [List.length_set] at hy
            rcases set_at hy with h | ⟨h, _⟩
            · omega
            · exact absurd rfl h
        · refine last _ gs p6 c6 hI6 lg ig h0 (fun y hy e => by
          subst e
          rw [List.getElem?_eq_getElem hlt] at hy
          exact ne2 (decide_eq_true (congrArg V.int (Option.some.inj hy))))  kg
end
end Sg
set_option Elab.async false
set_option linter.all false
set_option maxRecDepth 100000
set_option maxHeartbeats 4000000
namespace Sg
open PySem PySem.Spec PyProof.Rows L2 StX
/-! ## the distances at which a work meets itself, as the law finds them -/
def Bt (x z : List Int) (T : Nat) (k : Int) : Prop := ∃ (t i : Nat) (y : Int), t < T ∧ i < t ∧ x[t]? = some y ∧ z[i]? = some y ∧ y ≠ -1 ∧ k = (t : Int) - i
theorem Bt_bars {x z : List Int} {k : Int} : Bt x z x.length k ↔ ∃ d ∈ barsN x z, k = ((d : Nat) : Int) := by
  constructor
  · rintro ⟨t, i, y, h1, h2, h3, h4, h5, rfl⟩
    refine ⟨t - i, ?_, by omega⟩
    unfold barsN
    rw [List.mem_filter, List.mem_range']
    refine ⟨⟨t - i - 1, by omega, by omega⟩, clashB_iff.mpr ⟨i, y, ?_, h4, h5⟩⟩
    rw [show t - i + i = t by omega]; exact h3
  · rintro ⟨d, hd, rfl⟩
    unfold barsN at hd
    rw [List.mem_filter, List.mem_range'] at hd
    obtain ⟨⟨e, he, rfl⟩, hc⟩ := hd
    obtain ⟨j, y, h1, h2, h3⟩ := clashB_iff.mp hc
    have := (List.getElem?_eq_some_iff.mp h1).1
    exact ⟨_, j, y, this, by omega, h1, h2, h3, by omega⟩
theorem Bt_succ {x zs : List Int} {t : Nat} {y : Int} (h : x[t]? = some y) {k : Int} : Bt x zs (t + 1) k ↔ Bt x zs t k ∨ (y ≠ -1 ∧ ∃ i, i < t ∧ zs[i]? = some y ∧ k = (t : Int) - i) := by
  constructor
  · rintro ⟨u, i, z, h1, h2, h3, h4, h5, e⟩
    by_cases c : u = t
    · subst c
      rw [h] at h3
      obtain rfl := Option.some.inj h3
      exact .inr ⟨h5, i, h2, h4, e⟩
    · exact .inl ⟨u, i, z, by omega, h2, h3, h4, h5, e⟩
  · rintro (⟨u, i, z, h1, h2, h3, h4, h5, e⟩ | ⟨h5, i, h2, h4, e⟩)
    · exact ⟨u, i, z, by omega, h2, h3, h4, h5, e⟩
    · exact ⟨t, i, y, by omega, h2, h, h4, h5, e⟩
section
variable {P : Program} {w : World} {K : PySem.W.Frag} {mg : Str → Option Value} {base : Heap}
/-! ### _law_between -/
def spBetween (K : PySem.W.Frag) : Sp := fun vs H Q _ => ∃ (a b : Addr) (x zs : List Int), vs = [.ref a, .ref b] ∧ SqT K H a (x.map V.int) ∧ SqT K H b (zs.map V.int) ∧ IsWork x ∧ IsWork zs ∧
  ∀ H' l (ns : List Int), Same H H' → H l = none → H' l = some (.lst (ns.map V.int)) → ns.length ≤ 60 → ns.Pairwise (· < ·) → (∀ k, k ∈ ns ↔ ∃ d ∈ barsN x zs, k = ((d : Nat) : Int)) → Q (.ref l) H'
theorem ok_between {f : Addr} {fd : FuncData} {k : Nat} (F : Fun K "_law_between" "_law_between" s_l_between f fd) (m1 : mg "enumerate" = none) (m2 : mg "len" = none) (m3 : mg "range" = none) (m4 : mg "min" = none) (m5 : mg "sorted" = none) (m6 : mg "set" = none) :
    FnOk P w K mg base CX0 (k + 1) f fd ["_law_one", "_law_other"] (spBetween K) := by
  refine F.ok sc_l_between (fun vs H Q E h => ?_) (fun cdv A outer s H vs Q E hr h => ?_)
  · obtain ⟨a, bb, x, zs, rfl, _⟩ := h; rfl
  · obtain ⟨a, bb, x, zs, rfl, hA, hB, hx, hzs, q⟩ := h
    refine ⟨_, pss_cons (ps_set (i := 2) sc_l_between.nd rfl (.inl rfl) (pe_lst pa_nil))
      (pss_cons (ps_for PassesOwn.never rfl (pi_enumT (by rfl) m1 (pa_cons (pv 0) pa_nil))
          (pg_tup rfl (pgs_cons (pg_name (i := 3) sc_l_between.nd rfl (.inl rfl)) (pgs_cons (pg_name (i := 4) sc_l_between.nd rfl (.inl rfl)) pgs_nil)))
        (pss_one (ps_if (pt_cmpR op_ne (pv 4) (pe_un un_neg pe_int) (nomark _))
          (pss_one (ps_for PassesOwn.never rfl (pi_range1 (by rfl) m3 (pa_cons (pe_callB (call_min2 rfl) (by rfl) m4 (by decide +kernel) (pa_cons (pv 3) (pa_cons (pe_callB call_len_seq (by rfl) m2 PySem.boot_len (pa_cons (pv 1) pa_nil)) pa_nil))) pa_nil)) (pg_name (i := 5) sc_l_between.nd rfl (.inl rfl))
            (pss_one (ps_if (pt_cmpR op_eq (pe_ix ix_tup (pv 1) (pv 5) (fun _ _ => rfl)) (pv 4) (nomark _))
              (pss_one (ps_expr (pe_bm PySem.F.plainAttrs_list PySem.F.slot_list_append PySem.F.type_list_append mt_append (pv 2) (pa_cons (pe_op op_sub (pv 3) (pv 5)) pa_nil)))) pss_nil)))) pss_nil)))
      (pss_one (ps_ret (pe_callB (cr_sortedSet rfl) (by rfl) m5 (by decide +kernel) (pa_cons (pe_callTy (cr_setL rfl) (by rfl) m6 (by decide +kernel) (pa_cons (pv 2) pa_nil)) pa_nil))))), ?_⟩
    have big : 4000 ≤ sizeLine := by rw [sizeLine_eq]; decide
    have lx : (x.map V.int).length = x.length := List.length_map _
    have lz : (zs.map V.int).length = zs.length := List.length_map _
    have l60 := hx.most
    refine ⟨by show 0 ≤ sizeLine; decide, fun S nS => ?_⟩
    have e0 : Same H (upd H S (.lst [])) := same_new nS
    have hS0 := upd_same (H := H) (a := S) (o := .lst [])
    generalize upd H S (.lst []) = H1 at e0 hS0 ⊢
    refine ⟨.ref a, rfl, a, _, rfl, Same.tup e0 hA, ?_⟩
    refine for_it (walk_enumT (xs := x.map V.int)) (fun i σ H' => ∃ v3 v4 v5, ∃ ns : List Int, σ = [some (.ref a), some (.ref bb), some (.ref S), v3, v4, v5] ∧ Same H H' ∧ H' S = some (.lst (ns.map V.int)) ∧ ns.length ≤ 60 * i ∧ ∀ k, k ∈ ns ↔ Bt x zs i k)
      ⟨_, _, _, [], rfl, e0, hS0, Nat.zero_le _, fun k => ⟨(fun h => nomatch h), (fun ⟨t, i, y, h, _⟩ => absurd h (by omega))⟩⟩ (fun i σ H' _ h => ?_) (fun i y σ H' H'' hi h hY => ?_) (fun σ H' h => ?_)
    · obtain ⟨_, _, _, _, _, e, _⟩ := h
      exact Same.tup e hA
    · obtain ⟨v3, v4, v5, ns, rfl, e, hS, ls, mem⟩ := h
      obtain ⟨T, x1, x2, rfl, nT, rfl, f1, f2⟩ := hY
      dsimp only at f1 f2
      cases f1
      rw [List.getElem?_map] at f2
      obtain ⟨y, hy, rfl⟩ := Option.map_eq_some_iff.mp f2
      have hil := (List.getElem?_eq_some_iff.mp hy).1
      have eT : Same H' (upd H' T (.tup [V.int (i : Nat), .int y])) := same_new nT
      refine ⟨T, _, rfl, .of upd_same, rfl, _, _, rfl, _, _, rfl, rfl, ?_⟩
      have e2 := e.trans eT
      have hS2 := eT _ _ hS
      generalize upd H' T (.tup [V.int (i : Nat), .int y]) = H2 at e2 hS2 ⊢
      refine ⟨.int y, rfl, 1, rfl, rfl, _, rfl, ite2 (fun c => ?_) (fun c => ?_)⟩
      · have hy1 : y ≠ -1 := fun z => by rw [z] at c; cases c
        refine ⟨.int (i : Nat), rfl, .ref bb, rfl, bb, _, rfl, .inr (Same.tup e2 hB), _, _, rfl, ?_⟩
        rw [lz]
        obtain ⟨N, hN, hN1⟩ : ∃ N : Nat, (if ((zs.length : Nat) : Int) < ((i : Nat) : Int) then ((zs.length : Nat) : Int) else ((i : Nat) : Int)) = (N : Nat) ∧ N = min i zs.length := by
          refine ⟨min i zs.length, ?_, rfl⟩
          split <;> omega
        rw [hN]
        refine ⟨(N : Nat), rfl, by omega, by omega, ?_⟩
        refine for_range (lo := 0) (n := ((N : Nat) : Int).toNat) (fun j σ H' => ∃ v5, ∃ ns : List Int, σ = [some (.ref a), some (.ref bb), some (.ref S), some (.int (i : Nat)), some (.int y), v5] ∧ Same H H' ∧ H' S = some (.lst (ns.map V.int)) ∧ ns.length ≤ 60 * i + j ∧
            ∀ k, k ∈ ns ↔ Bt x zs i k ∨ (y ≠ -1 ∧ ∃ b, b < j ∧ zs[b]? = some y ∧ k = (i : Int) - b)) ⟨_, ns, rfl, e2, hS2, ls, fun k => by rw [mem]; exact ⟨.inl, fun h => h.elim id fun ⟨_, b, hb, _⟩ => absurd hb (by omega)⟩⟩ ?_ ?_
        · rintro j σ H3 hj ⟨v5, ns, rfl, e3, hS3, l3, mem3⟩
          have hj' : j < i := by omega
          have hjz : j < zs.length := by omega
          have gj : (zs.map V.int)[j]? = some (.int zs[j]) := by rw [List.getElem?_map, List.getElem?_eq_getElem (by omega)]; rfl
          refine ⟨.ref bb, rfl, .int (0 + (j : Nat)), rfl, bb, _, (j : Nat), .int zs[j], rfl, congrArg V.int (Int.zero_add _), Same.tup e3 hB, atI_nat gj, .int y, rfl, rfl, _, rfl, ite2 (fun c => ?_) (fun c => ?_)⟩
          · have hxy : zs[j] = y := V.int.inj (of_decide_eq_true c)
            refine ⟨.ref S, rfl, .inl ⟨rfl, _, .of hS3⟩, .int (i : Nat), rfl, .int (0 + (j : Nat)), rfl, _, _, rfl, rfl, S, _, _, rfl, rfl, hS3, by rw [List.length_map]; omega, ?_⟩
            refine ⟨_, ns ++ [(i : Int) - (0 + (j : Nat))], rfl, fun b o z => ?_, by rw [upd_same, List.map_append]; rfl, by rw [List.length_append]; show ns.length + 1 ≤ _; omega, fun k => ?_⟩
            · rw [upd_ne (ne_of_none z nS)]
              exact e3 _ _ z
            · rw [List.mem_append, mem3, List.mem_singleton]
              constructor
              · rintro ((h | ⟨_, b, hb, h1, h2⟩) | h)
                · exact .inl h
                · exact .inr ⟨hy1, b, by omega, h1, h2⟩
                · exact .inr ⟨hy1, j, by omega, by rw [List.getElem?_eq_getElem (by omega), hxy], by omega⟩
              · rintro (h | ⟨_, b, hb, h1, h2⟩)
                · exact .inl (.inl h)
                · by_cases z : b = j
                  · subst z; exact .inr (by omega)
                  · exact .inl (.inr ⟨hy1, b, by omega, h1, h2⟩)
          · refine ⟨_, ns, rfl, e3, hS3, by omega, fun k => ?_⟩
            rw [mem3]
            constructor
            · rintro (h | ⟨_, b, hb, h1, h2⟩)
              · exact .inl h
              · exact .inr ⟨hy1, b, by omega, h1, h2⟩
            · rintro (h | ⟨_, b, hb, h1, h2⟩)
              · exact .inl h
              · by_cases z : b = j
                · subst z
                  rw [List.getElem?_eq_getElem (by omega)] at h1
                  exact absurd (decide_eq_true (congrArg V.int (Option.some.inj h1))) c
                · exact .inr ⟨hy1, b, by omega, h1, h2⟩
        · rintro σ H3 ⟨v5, ns, rfl, e3, hS3, l3, mem3⟩
          refine ⟨_, _, _, ns, rfl, e3, hS3, by omega, fun k => ?_⟩
          rw [mem3, Bt_succ hy, Int.toNat_natCast]
          refine or_congr_right (and_congr_right fun _ => ⟨fun ⟨b, hb, h1, h2⟩ => ⟨b, by omega, h1, h2⟩, fun ⟨b, hb, h1, h2⟩ => ⟨b, ?_, h1, h2⟩⟩)
          have := (List.getElem?_eq_some_iff.mp h1).1
          omega
      · have hy1 : y = -1 := Classical.byContradiction fun z => c (by rw [decide_eq_false fun w => z (V.int.inj w)]; rfl)
        refine ⟨_, _, _, ns, rfl, e2, hS2, by omega, fun k => ?_⟩
        rw [mem, Bt_succ hy]
        exact ⟨.inl, fun h => h.elim id fun ⟨z, _⟩ => absurd hy1 z⟩
    · obtain ⟨v3, v4, v5, ns, rfl, e, hS, ls, mem⟩ := h
      rw [lx] at ls mem
      refine ⟨.ref S, rfl, S, ns, rfl, .of hS, by omega, fun p n np hn => ?_⟩
      have ep := same_new (o := SetO w p (fun j => decide (j ∈ ns)) n) np
      have hn60 : n ≤ 60 := by
        have := hn ((List.range 60).map fun d : Nat => (d : Int)) fun k hk => by
          obtain ⟨t, i, y, h1, h2, _, _, _, h6⟩ := (mem k).mp hk
          exact List.mem_map.mpr ⟨t - i, List.mem_range.mpr (by omega), by omega⟩
        rw [List.length_map, List.length_range] at this
        exact this
      refine ⟨p, _, n, rfl, upd_same, by omega, fun ms l hms hmem hlen nl => ?_⟩
      have el := same_new (o := .lst (ms.map V.int)) nl
      refine q _ l ms ((e.trans ep).trans el) (freeS (e.trans ep) nl) upd_same (by omega) hms fun k => ?_
      rw [hmem, decide_eq_true_eq, mem, Bt_bars]
end
end Sg
set_option Elab.async false
set_option linter.all false
set_option maxRecDepth 100000
set_option maxHeartbeats 4000000
namespace Sg
open PySem PySem.Spec PyProof.Rows L2 StX
/-! ## the digits of a sum of powers -/
theorem pow_sum : ∀ (es : List Nat), es.Pairwise (· < ·) → ∀ n, (∀ e ∈ es, e < n) → ((es.map fun e => 2 ^ e).sum < 2 ^ n) ∧ ∀ i, ((es.map fun e => 2 ^ e).sum).testBit i = true ↔ i ∈ es := by
  refine fun es => ?_
  have key : ∀ (m : Nat) (es : List Nat), es.length = m → es.Pairwise (· < ·) → ∀ n, (∀ e ∈ es, e < n) → ((es.map fun e => 2 ^ e).sum < 2 ^ n) ∧ ∀ i, ((es.map fun e => 2 ^ e).sum).testBit i = true ↔ i ∈ es := by
    intro m
    induction m with
    | zero =>
      intro es h _ n _
      rw [List.eq_nil_of_length_eq_zero h]
      exact ⟨Nat.two_pow_pos n, fun i => ⟨(fun z => by rw [List.map_nil, List.sum_nil, Nat.zero_testBit] at z; exact nomatch z), (fun z => nomatch z)⟩⟩
    | succ m ih =>
      intro es h hp n hn
      have h0 : es ≠ [] := fun z => by rw [z] at h; exact nomatch h
      have e := (List.dropLast_concat_getLast h0).symm
      generalize es.dropLast = l at e
      generalize es.getLast h0 = b at e
      subst e
      rw [List.length_append] at h
      have hp2 := List.pairwise_append.mp hp
      have hlt : ∀ x ∈ l, x < b := fun x hx => hp2.2.2 x hx b (List.mem_singleton.mpr rfl)
      obtain ⟨i1, i2⟩ := ih l (by have : l.length + 1 = m + 1 := h; omega) hp2.1 b hlt
      have es_ : ((l ++ [b]).map fun e => 2 ^ e).sum = 2 ^ b + (l.map fun e => 2 ^ e).sum := by
        rw [List.map_append, List.sum_append]; simp [Nat.add_comm]
      have hb : b < n := hn b (List.mem_append_right _ (List.mem_singleton.mpr rfl))
      have hpw : 2 ^ (b + 1) ≤ 2 ^ n := Nat.pow_le_pow_right (by decide) hb
      have h2 : 2 ^ (b + 1) = 2 ^ b + 2 ^ b := by rw [Nat.pow_succ]; omega
      rw [es_]
      refine ⟨by omega, fun i => ?_⟩
      rw [List.mem_append, List.mem_singleton]
      rcases Nat.lt_trichotomy i b with z | z | z
      · rw [Nat.testBit_two_pow_add_gt z, i2]
        exact ⟨.inl, fun h => h.elim id fun e => absurd e (by omega)⟩
      · subst z
        rw [Nat.testBit_two_pow_add_eq]
        have : (l.map fun e => 2 ^ e).sum.testBit i = false := by
          cases c : (l.map fun e => 2 ^ e).sum.testBit i with
          | false => rfl
          | true => exact absurd (hlt i ((i2 i).mp c)) (Nat.lt_irrefl _)
        rw [this]
        exact ⟨fun _ => .inr rfl, fun _ => rfl⟩
      · rw [Nat.testBit_lt_two_pow (by
          have : 2 ^ (b + 1) ≤ 2 ^ i := Nat.pow_le_pow_right (by decide) z
          omega)]
        refine ⟨(fun h => nomatch h), fun h => ?_⟩
        rcases h with h | h
        · have := hlt i h; omega
        · omega
  exact key es.length es rfl
/-- what the law adds up: the digits of the bars -/
def maskB (ns : List Int) : Nat := (ns.map fun z => 2 ^ (z - 1).toNat).sum
theorem mask_is {ns : List Int} {bs : List Nat} (hp : ns.Pairwise (· < ·)) (hm : ∀ k, k ∈ ns ↔ ∃ d ∈ bs, k = ((d : Nat) : Int)) (h1 : ∀ b ∈ bs, 1 ≤ b ∧ b ≤ 8) : IsB (maskB ns) bs ∧ maskB ns < 256 := by
  have hr : ∀ z ∈ ns, 1 ≤ z ∧ z ≤ 8 := fun z hz => by
    obtain ⟨d, hd, rfl⟩ := (hm z).mp hz
    have := h1 d hd; omega
  have e : maskB ns = ((ns.map fun z => (z - 1).toNat).map fun e => 2 ^ e).sum := by unfold maskB; rw [List.map_map]; rfl
  have p : (ns.map fun z => (z - 1).toNat).Pairwise (· < ·) := by
    rw [List.pairwise_map]
    refine List.Pairwise.imp_of_mem (fun {a b} ha hb h => ?_) hp
    have := hr a ha; have := hr b hb; omega
  obtain ⟨a, b⟩ := pow_sum _ p 8 fun x hx => by
    obtain ⟨z, hz, rfl⟩ := List.mem_map.mp hx
    have := hr z hz; omega
  rw [e]
  refine ⟨fun i => ?_, a⟩
  rw [b, List.mem_map]
  constructor
  · rintro ⟨z, hz, rfl⟩
    obtain ⟨d, hd, rfl⟩ := (hm z).mp hz
    have := h1 d hd
    rw [show (((d : Nat) : Int) - 1).toNat + 1 = d by omega]; exact hd
  · intro hd
    exact ⟨((i + 1 : Nat) : Int), (hm _).mpr ⟨_, hd, rfl⟩, by omega⟩
theorem ed_small {B m x : Nat} {c : Int} (hB : B < 256) (hm : m < 256) (h : (x, c) ∈ edM B m) : x < 256 := by
  have h1 : m >>> 1 < 2 ^ 8 := by rw [Nat.shiftRight_eq_div_pow]; omega
  unfold edM at h
  rcases List.mem_cons.mp h with h | h
  · rw [(Prod.mk.inj h).1]; exact h1
  · by_cases z : m % 2 = 0
    · rw [if_pos z] at h
      rw [(Prod.mk.inj (List.mem_singleton.mp h)).1]
      exact Nat.or_lt_two_pow h1 hB
    · rw [if_neg z] at h; exact nomatch h
theorem orN (a b : Nat) : Builtin.bitOr (a : Int) (b : Int) = ((a ||| b : Nat) : Int) := by
  rw [bitOr_nn (Int.natCast_nonneg _) (Int.natCast_nonneg _), Int.toNat_natCast, Int.toNat_natCast]
theorem halfN (a : Nat) : a >>> 1 = a / 2 := by rw [Nat.shiftRight_eq_div_pow]
section
variable {P : Program} {w : World} {K : PySem.W.Frag} {mg : Str → Option Value} {base : Heap}
/-! ### _law_lowest -/
def spLowest : Sp := fun vs H Q _ => ∃ a b : Nat, vs = [.int (a : Nat), .int (b : Nat)] ∧ 0 < a ∧ a ≤ 1000000 ∧ b ≤ 1000000 ∧ ∀ H' p, Same H H' → H' p = some (.tup [.int ((a / Nat.gcd a b : Nat) : Int), .int ((b / Nat.gcd a b : Nat) : Int)]) → Q (.ref p) H'
theorem ok_lowest {f : Addr} {fd : FuncData} {k : Nat} (F : Fun K "_law_lowest" "_law_lowest" s_l_lowest f fd) : FnOk P w K mg base CX0 (k + 1) f fd ["_law_top", "_law_bottom"] spLowest := by
  refine F.ok sc_l_lowest (fun vs H Q E h => ?_) (fun cdv A outer s H vs Q E hr h => ?_)
  · obtain ⟨a, b, rfl, _⟩ := h; rfl
  · obtain ⟨a, b, rfl, ha, ha2, hb2, q⟩ := h
    refine ⟨_, pss_cons (ps_par (i := 2) (j := 3) (by rfl) sc_l_lowest.nd rfl rfl (by decide) rfl rfl (pa_cons (pv 1) (pa_cons (pv 0) pa_nil)) (by rfl))
      (pss_cons (ps_while PassesOwn.never (pt_cmpR op_gt (pv 3) pe_int (nomark _))
        (pss_one (ps_par (i := 2) (j := 3) (by rfl) sc_l_lowest.nd rfl rfl (by decide) rfl rfl (pa_cons (pv 3) (pa_cons (pe_op op_mod (pv 2) (pv 3)) pa_nil)) (by rfl))))
      (pss_one (ps_ret (pe_tup (pa_cons (pe_op op_fdiv (pv 0) (pv 2)) (pa_cons (pe_op op_fdiv (pv 1) (pv 2)) pa_nil)))))), ?_⟩
    refine ⟨.int (b : Nat), rfl, .int (a : Nat), rfl, _, _, rfl, ?_⟩
    refine ⟨fun n σ H' => ∃ x y : Nat, σ = [some (.int (a : Nat)), some (.int (b : Nat)), some (.int (x : Nat)), some (.int (y : Nat))] ∧ H' = H ∧ 0 < x + y ∧ Nat.gcd x y = Nat.gcd a b ∧ n = y, ⟨_, _, _, rfl, rfl, by omega, Nat.gcd_comm _ _, rfl⟩, ?_⟩
    rintro y σ H1 ⟨x, _, rfl, rfl, hxy, hgcd, rfl⟩
    refine ⟨.int (y : Nat), rfl, (y : Nat), 0, rfl, rfl, _, rfl, ite2 (fun e => ?_) (fun e => ?_)⟩
    · have hy : 0 < y := by
        have := of_decide_eq_true e
        omega
      have em : (((x : Nat) : Int)) % ((y : Nat) : Int) = ((x % y : Nat) : Int) := by first | rfl | exact (Int.natCast_emod x y).symm
      refine ⟨fun σ' H'' => σ' = [some (.int (a : Nat)), some (.int (b : Nat)), some (.int (y : Nat)), some (.int ((x % y : Nat) : Int))] ∧ H'' = H1, fun σ' H'' ⟨e1, e2⟩ => ⟨_, Nat.mod_lt x hy, y, x % y, e1, e2, by omega, by rw [Nat.gcd_comm y, ← Nat.gcd_rec, Nat.gcd_comm y]; exact hgcd, rfl⟩, ?_⟩
      refine ⟨.int (y : Nat), rfl, .int (x : Nat), rfl, .int (y : Nat), rfl, (x : Nat), (y : Nat), rfl, rfl, by omega, _, _, rfl, ?_, rfl⟩
      exact congrArg (fun z : Int => [some (V.int (a : Nat)), some (V.int (b : Nat)), some (V.int (y : Nat)), some (V.int z)]) em
    · have hy : y = 0 := by
        have : ¬ ((y : Nat) : Int) > 0 := fun z => e (decide_eq_true z)
        omega
      subst hy
      rw [Nat.gcd_zero_right] at hgcd
      have hle : Nat.gcd a b ≤ a := Nat.gcd_le_left _ ha
      refine ⟨.int (a : Nat), rfl, .int (x : Nat), rfl, (a : Nat), (x : Nat), rfl, rfl, ⟨by omega, by omega⟩, .int (b : Nat), rfl, .int (x : Nat), rfl, (b : Nat), (x : Nat), rfl, rfl, ⟨by omega, by omega⟩, by show 2 ≤ sizeLine; decide, fun p np => ?_⟩
      refine q _ p (same_new np) ?_
      rw [← hgcd, Int.natCast_ediv, Int.natCast_ediv]
      exact upd_same
end
end Sg
set_option Elab.async false
set_option linter.all false
set_option maxRecDepth 100000
set_option maxHeartbeats 4000000
namespace Sg
open PySem PySem.Spec PyProof.Rows L2 StX
/-! ## the law's graph of masks in the heap -/
def mkD (ps : List (Nat × Addr)) : List (L2.Key × V) := ps.map fun x => (Sum.inl (x.1 : Int), V.ref x.2)
def mkA (ps : List (Nat × Addr)) (m : Nat) : Option Addr := (ps.find? fun x => decide (x.1 = m)).map (·.2)
theorem mkD_at (ps : List (Nat × Addr)) (m : Nat) : valV (mkD ps) (Sum.inl (m : Int)) = (mkA ps m).map V.ref := by
  induction ps with
  | nil => rfl
  | cons x ps ih =>
    by_cases e : x.1 = m
    · have a : mkA (x :: ps) m = some x.2 := by simp [mkA, List.find?_cons, e]
      rw [a]
      exact valV_pos (by show (Sum.inl (x.1 : Int) : L2.Key) = _; rw [e])
    · have a : mkA (x :: ps) m = mkA ps m := by simp [mkA, List.find?_cons, e]
      rw [a, ← ih]
      exact valV_neg (fun z => e (by have := Sum.inl.inj z; omega))
theorem mkA_none {ps : List (Nat × Addr)} {m : Nat} (h : mkA ps m = none) : m ∉ ps.map (·.1) := fun hm => by
  obtain ⟨x, hx, e⟩ := List.mem_map.mp hm
  unfold mkA at h
  rw [Option.map_eq_none_iff, List.find?_eq_none] at h
  exact h x hx (decide_eq_true e)
theorem mkA_some {ps : List (Nat × Addr)} {m : Nat} {a : Addr} (h : mkA ps m = some a) : (m, a) ∈ ps := by
  unfold mkA at h
  obtain ⟨x, hx, rfl⟩ := Option.map_eq_some_iff.mp h
  have e0 := List.find?_some hx
  have e : x.1 = m := of_decide_eq_true (show decide (x.1 = m) = true from e0)
  rw [← e]; exact List.mem_of_find?_eq_some hx
theorem mkA_ex {ps : List (Nat × Addr)} {m : Nat} (h : m ∈ ps.map (·.1)) : ∃ a, mkA ps m = some a := by
  cases e : mkA ps m with
  | some a => exact ⟨a, rfl⟩
  | none => exact absurd h (mkA_none e)
theorem mkD_put {ps : List (Nat × Addr)} {m : Nat} {a : Addr} (h : mkA ps m = none) : putK (mkD ps) (Sum.inl (m : Int)) (V.ref a) = mkD (ps ++ [(m, a)]) := by
  rw [putK_new _ (by rw [mkD_at, h]; rfl)]
  unfold mkD; rw [List.map_append]; rfl
theorem mkA_snoc {ps : List (Nat × Addr)} {m : Nat} {a : Addr} (h : mkA ps m = none) : mkA (ps ++ [(m, a)]) m = some a := by
  unfold mkA at h ⊢
  rw [List.find?_append, Option.map_eq_none_iff.mp h, Option.none_or]
  simp [List.find?_cons]
def EdV (H : Hp) (v : V) (e : Nat × Int) : Prop := ∃ t, v = .ref t ∧ H t = some (.tup [.int (e.1 : Nat), .int e.2])
def EdAt (H : Hp) (a : Addr) (es : List (Nat × Int)) : Prop := ∃ vs, H a = some (.lst vs) ∧ Paired (EdV H) vs es
theorem EdAt.keep {H H' : Hp} (e : Same H H') {a : Addr} {es : List (Nat × Int)} (h : EdAt H a es) : EdAt H' a es := by
  obtain ⟨vs, h1, h2⟩ := h
  exact ⟨vs, e _ _ h1, paired_imp h2 fun v x ⟨t, a, b⟩ => ⟨t, a, e _ _ b⟩⟩
theorem EdAt.upd {H : Hp} {z : Addr} {o o' : HO} (hz : H z = some o) (nt : ∀ us, o ≠ .tup us) {a : Addr} {es : List (Nat × Int)} (na : a ≠ z) (h : EdAt H a es) : EdAt (L2.upd H z o') a es := by
  obtain ⟨vs, h1, h2⟩ := h
  refine ⟨vs, by rw [upd_ne na]; exact h1, paired_imp h2 fun v x ⟨t, a, b⟩ => ⟨t, a, ?_⟩⟩
  rw [upd_ne fun c => by rw [c, hz] at b; exact nt _ (Option.some.inj b)]; exact b
structure MaskAt (H : Hp) (D : Addr) (B : Nat) (ps : List (Nat × Addr)) : Prop where
  at_ : H D = some (.dK (mkD ps))
  ed : ∀ x ∈ ps, EdAt H x.2 (edM B x.1)
  nd : (ps.map (·.1)).Nodup
  lt : ∀ x ∈ ps, x.1 < 256
  zero : 0 ∈ ps.map (·.1)
  cl : ∀ x ∈ ps, ∀ y c, (y, c) ∈ edM B x.1 → y ∈ ps.map (·.1)
theorem nd_few {ps : List (Nat × Addr)} (nd : (ps.map (·.1)).Nodup) (lt : ∀ x ∈ ps, x.1 < 256) : ps.length ≤ 256 := by
  have := nodup_len_le (ps.map (·.1)) (List.range 256) nd fun v hv => by
    obtain ⟨x, hx, rfl⟩ := List.mem_map.mp hv
    exact List.mem_range.mpr (lt x hx)
  rw [List.length_map, List.length_range] at this
  exact this
/-- while the law looks for masks -/
structure MskI (H : Hp) (D W : Addr) (B : Nat) (ps : List (Nat × Addr)) (ws : List Nat) : Prop where
  at_ : H D = some (.dK (mkD ps))
  wt : H W = some (.lst (nV ws))
  ed : ∀ x ∈ ps, EdAt H x.2 (edM B x.1) ∧ x.2 ≠ W
  nd : (ps.map (·.1)).Nodup
  lt : ∀ x ∈ ps, x.1 < 256
  wlt : ∀ y ∈ ws, y < 256
  zero : 0 ∈ ps.map (·.1) ∨ 0 ∈ ws
  cl : ∀ x ∈ ps, ∀ y c, (y, c) ∈ edM B x.1 → y ∈ ps.map (·.1) ∨ y ∈ ws
  few : ws.length ≤ 1 + 2 * ps.length
section
variable {P : Program} {w : World} {K : PySem.W.Frag} {mg : Str → Option Value} {base : Heap}
/-! ### _law_masks -/
def spMasks : Sp := fun vs H Q _ => ∃ (a : Addr) (ns : List Int), vs = [.ref a] ∧ H a = some (.lst (ns.map V.int)) ∧ ns.length ≤ 60 ∧ (∀ z ∈ ns, 1 ≤ z ∧ z ≤ 8) ∧ maskB ns < 256 ∧
  ∀ H' D ps, Same H H' → MaskAt H' D (maskB ns) ps → Q (.ref D) H'
abbrev mskN : List Str := ["_law_spans", "_law_barred", "_law_bar", "_law_found", "_law_waiting", "_law_mask", "_law_later", "_law_starts"]
theorem ok_masks {f : Addr} {fd : FuncData} {k : Nat} (F : Fun K "_law_masks" "_law_masks" s_l_masks f fd) (m1 : mg "sum" = none) : FnOk P w K mg base CX0 (k + 1) f fd ["_law_spans"] spMasks := by
  refine F.ok sc_l_masks (fun vs H Q E h => ?_) (fun cdv A outer s H vs Q E hr h => ?_)
  · obtain ⟨a, ns, rfl, _⟩ := h; rfl
  · obtain ⟨a, ns, rfl, ha, hl, hn, hB, q⟩ := h
    have hu2 := hu_of hr
    have hu := hr.units
    have hu1 : (A.deeper (envOfC "_law_masks" (defScope s_l_masks) s.heap.objs.size f cdv)).units < cLine := by omega
    refine ⟨_, pss_cons (ps_set (i := 1) sc_l_masks.nd rfl (.inl rfl) (pe_callB (cr_sum rfl) (by rfl) m1 (by decide +kernel) (pa_cons
          (pe_lc (own := [("_law_bar", 2)]) (g := gName 2) (tt := tYes) rfl sc_l_masks.nd (pi_list (pv 0)) (blkOk_by (N := mskN) (sc := defScope s_l_masks) (by decide +kernel))
            (fun _ _ _ _ _ => pg_name (i := 2) sc_l_masks.nd rfl (Or.inl rfl)) (fun _ _ _ _ _ => pts_nil)
            (fun _ _ _ _ _ => pe_op op_oneShl pe_int (pe_op op_sub (pv 2) pe_int))) pa_nil)))
      (pss_cons (ps_par (i := 3) (j := 4) (by rfl) sc_l_masks.nd rfl rfl (by decide) rfl rfl (pa_cons pe_dnewK (pa_cons (pe_lst (pa_cons pe_int pa_nil)) pa_nil)) (by rfl))
      (pss_cons (ps_while PassesOwn.never (pt_cmpR (op_neNil hu1) (pv 4) (pe_lst pa_nil) (nomark _))
        (pss_cons (ps_set (i := 5) sc_l_masks.nd rfl (.inl rfl) (pe_bm0 PySem.F.plainAttrs_list PySem.F.slot_list_pop PySem.F.type_list_pop mt_pop (pv 4)))
        (pss_one (ps_if (pt_cmp (pc_dnotin hu2 (pv 5) (pv 3)))
          (pss_cons (ps_dput hu2 (pv 3) (pv 5) (pe_lst (pa_cons (pe_tup (pa_cons (pe_op op_halfN (pv 5) pe_int) (pa_cons pe_int pa_nil))) pa_nil)) rfl)
          (pss_cons (ps_if (pt_cmpR op_eq (pe_op op_mod (pv 5) pe_int) pe_int (nomark _))
            (pss_one (ps_expr (pe_bm PySem.F.plainAttrs_list PySem.F.slot_list_append PySem.F.type_list_append mt_append (pe_dget hu2 (pv 3) (pv 5) (fun _ _ => rfl)) (pa_cons (pe_tup (pa_cons (pe_op op_or (pe_op op_halfN (pv 5) pe_int) (pv 1)) (pa_cons pe_int pa_nil))) pa_nil)))) pss_nil)
          (pss_one (ps_set (i := 4) sc_l_masks.nd rfl (by first | exact .inl rfl | exact .inr rfl) (pe_op op_cat (pv 4)
            (pe_lc (own := [("_law_later", 6), ("_law_starts", 7)]) (g := gTup K 2 (gCons (gName 6) (gCons (gName 7) gNil))) (tt := tYes) rfl sc_l_masks.nd (pi_list (pe_dget hu2 (pv 3) (pv 5) (fun _ _ => rfl))) (blkOk_by (N := mskN) (sc := defScope s_l_masks) (by decide +kernel))
              (fun _ _ _ _ _ => pg_tup rfl (pgs_cons (pg_name (i := 6) sc_l_masks.nd rfl (Or.inl rfl)) (pgs_cons (pg_name (i := 7) sc_l_masks.nd rfl (Or.inl rfl)) pgs_nil))) (fun _ _ _ _ _ => pts_nil)
              (fun _ _ _ _ _ => pv 6))))))) pss_nil))))
      (pss_one (ps_ret (pv 3))))), ?_⟩
    have big : 400000 ≤ sizeLine := by rw [sizeLine_eq]; decide
    have lns : (ns.map V.int).length = ns.length := List.length_map _
    refine ⟨.ref a, rfl, a, rfl, ⟨_, .of ha⟩, fun S nS => ?_⟩
    refine lc_list (xs := ns.map V.int) (fun i H' => Same H H' ∧ H' S = some (.lst (((ns.take i).map fun z => (2 : Int) ^ (z - 1).toNat).map V.int))) ⟨same_new nS, upd_same⟩ (fun i H' _ h => .of (h.1 _ _ ha)) (fun i x H' hx h => ?_) (fun H1 h => ?_)
    · obtain ⟨e, hS⟩ := h
      rw [List.getElem?_map] at hx
      obtain ⟨z, hz, rfl⟩ := Option.map_eq_some_iff.mp hx
      obtain ⟨hi, hzi⟩ := List.getElem?_eq_some_iff.mp hz
      have hz1 := hn z (List.mem_of_getElem? hz)
      refine ⟨rfl, .int z, rfl, _, _, rfl, rfl, (z - 1).toNat, rfl, congrArg V.int (by omega), by omega, _, hS, ?_, fun b o zz => ?_, ?_⟩
      · rw [List.length_map, List.length_map, List.length_take]; omega
      · rw [upd_ne (ne_of_none zz nS)]; exact e _ _ zz
      · rw [upd_same, List.take_add_one, hz, List.map_append, List.map_append]; rfl
    obtain ⟨e1, hS1⟩ := h
    rw [lns, List.take_of_length_le (Nat.le_refl _)] at hS1
    have hsum : (ns.map fun z => (2 : Int) ^ (z - 1).toNat).sum = ((maskB ns : Nat) : Int) := by
      unfold maskB
      clear hl hn hB ha lns hS1 q
      induction ns with
      | nil => rfl
      | cons z ns ih => rw [List.map_cons, List.sum_cons, ih, List.map_cons, List.sum_cons, Int.natCast_add, Int.natCast_pow]; rfl
    refine ⟨S, _, rfl, .of hS1, ?_⟩
    rw [hsum]
    generalize maskB ns = B at hB q ⊢
    intro D nD
    have e2 := e1.trans (same_new (o := .dK []) nD)
    have hD2 : (upd H1 D (.dK [])) D = some (.dK (mkD [])) := upd_same
    generalize upd H1 D (.dK []) = H2 at e2 hD2 ⊢
    refine ⟨by show 1 ≤ sizeLine; omega, fun W nW => ⟨_, _, rfl, ?_⟩⟩
    have e3 := e2.trans (same_new (o := .lst [V.int 0]) nW)
    have hD3 := same_new (o := .lst [V.int 0]) nW _ _ hD2
    have hW3 : (upd H2 W (.lst [V.int 0])) W = some (.lst (nV [0])) := upd_same
    have nDW : D ≠ W := ne_of_none hD2 nW
    have nDH : H D = none := freeS e1 nD
    have nWH : H W = none := freeS e2 nW
    generalize upd H2 W (.lst [V.int 0]) = H3 at e3 hD3 hW3 ⊢
    clear hD2 nD nW e2 e1 hS1 nS
    refine ⟨fun m σ H' => ∃ v2 W v5 v6 v7 ps ws, σ = [some (.ref a), some (.int (B : Nat)), v2, some (.ref D), some (.ref W), v5, v6, v7] ∧ Same H H' ∧ H W = none ∧ MskI H' D W B ps ws ∧ m = 3 * (256 - ps.length) + ws.length,
      ⟨_, _, _, _, _, _, [], [0], rfl, e3, nWH, ⟨hD3, hW3, (fun x hx => nomatch hx), List.nodup_nil, (fun x hx => nomatch hx), (fun y hy => by rw [List.mem_singleton.mp hy]; decide), .inr (List.mem_singleton.mpr rfl), (fun x hx => nomatch hx), by decide⟩, rfl⟩, ?_⟩
    clear hD3 hW3 e3 H3 nDW nWH W
    rintro m σ H4 ⟨v2, W, v5, v6, v7, ps, ws, rfl, e4, nWH, I, rfl⟩
    have lps := nd_few I.nd I.lt
    refine ⟨.ref W, rfl, by show 0 ≤ sizeLine; omega, fun Z nZ => ?_⟩
    have eZ := same_new (o := .lst []) nZ
    have hZ : (upd H4 Z (.lst [])) Z = some (.lst []) := upd_same
    have I5 : MskI (upd H4 Z (.lst [])) D W B ps ws := ⟨eZ _ _ I.at_, eZ _ _ I.wt, fun x hx => ⟨(I.ed x hx).1.keep eZ, (I.ed x hx).2⟩, I.nd, I.lt, I.wlt, I.zero, I.cl, I.few⟩
    have e5 := e4.trans eZ
    generalize upd H4 Z (.lst []) = H5 at hZ I5 e5 ⊢
    clear I e4 eZ nZ H4
    refine ⟨W, Z, nV ws, rfl, rfl, .of I5.wt, .of hZ, _, rfl, ?_⟩
    clear hZ
    by_cases hw : ws = []
    · subst hw
      exact iteF ⟨.ref D, rfl, q H5 D ps e5 ⟨I5.at_, fun x hx => (I5.ed x hx).1, I5.nd, I5.lt, I5.zero.resolve_right (fun z => nomatch z), fun x hx y c h => (I5.cl x hx y c h).resolve_right (fun z => nomatch z)⟩⟩
    obtain ⟨ys, m, rfl⟩ : ∃ ys m, ws = ys ++ [m] := ⟨_, _, (List.dropLast_concat_getLast hw).symm⟩
    clear hw
    have hne : (!(nV (ys ++ [m])).isEmpty) = true := by unfold nV; rw [List.map_append]; cases ys.map (fun d => V.int (d : Nat)) <;> rfl
    have lym : (ys ++ [m]).length = ys.length + 1 := by rw [List.length_append]; rfl
    rw [hne, lym]
    refine iteT ⟨fun σ' H' => ∃ v2 W v5 v6 v7 ps' ws', σ' = [some (.ref a), some (.int (B : Nat)), v2, some (.ref D), some (.ref W), v5, v6, v7] ∧ Same H H' ∧ H W = none ∧ MskI H' D W B ps' ws' ∧ 3 * (256 - ps'.length) + ws'.length < 3 * (256 - ps.length) + (ys.length + 1),
      fun σ' H' ⟨v2, W, v5, v6, v7, ps', ws', z1, z2, z3, z4, z5⟩ => ⟨_, z5, v2, W, v5, v6, v7, ps', ws', z1, z2, z3, z4, rfl⟩, ?_⟩
    have nDW : D ≠ W := fun z => by have := I5.at_; rw [z, I5.wt] at this; exact nomatch this
    have few := I5.few
    rw [lym] at few
    have hm256 : m < 256 := I5.wlt m (List.mem_append_right _ (List.mem_singleton.mpr rfl))
    refine ⟨.ref W, rfl, .inl ⟨rfl, _, .of I5.wt⟩, W, nV (ys ++ [m]), .int (m : Nat), rfl, rfl, I5.wt, ?_, ?_⟩
    · unfold nV
      rw [List.length_map, lym, List.getElem?_map, Nat.add_sub_cancel, List.getElem?_append_right (Nat.le_refl _), Nat.sub_self]; rfl
    rw [show (nV (ys ++ [m])).dropLast = nV ys by unfold nV; rw [List.map_append]; exact List.dropLast_concat]
    have e6 : Same H (upd H5 W (.lst (nV ys))) := fun b o z => by rw [upd_ne (ne_of_none z nWH)]; exact e5 _ _ z
    have D6 : (upd H5 W (.lst (nV ys))) D = some (.dK (mkD ps)) := by rw [upd_ne nDW]; exact I5.at_
    have W6 : (upd H5 W (.lst (nV ys))) W = some (.lst (nV ys)) := upd_same
    have E6 : ∀ x ∈ ps, EdAt (upd H5 W (.lst (nV ys))) x.2 (edM B x.1) ∧ x.2 ≠ W := fun x hx => ⟨(I5.ed x hx).1.upd I5.wt (fun _ z => nomatch z) (I5.ed x hx).2, (I5.ed x hx).2⟩
    have nd := I5.nd
    have plt := I5.lt
    have wlt : ∀ y ∈ ys, y < 256 := fun y hy => I5.wlt y (List.mem_append_left _ hy)
    have zero : 0 ∈ ps.map (·.1) ∨ 0 ∈ ys ∨ 0 = m := I5.zero.imp id fun h => (List.mem_append.mp h).imp id fun h => List.mem_singleton.mp h
    have cl : ∀ x ∈ ps, ∀ y c, (y, c) ∈ edM B x.1 → y ∈ ps.map (·.1) ∨ y ∈ ys ∨ y = m := fun x hx y c h => (I5.cl x hx y c h).imp id fun h => (List.mem_append.mp h).imp id fun h => List.mem_singleton.mp h
    generalize upd H5 W (.lst (nV ys)) = H6 at e6 D6 W6 E6 ⊢
    clear I5 e5 hne H5
    have hget : DGet H6 D (.int (m : Nat)) ((mkA ps m).map V.ref) := by
      rw [← mkD_at]
      exact DGet.k (k := Sum.inl ((m : Nat) : Int)) D6
    refine ⟨.int (m : Nat), rfl, .ref D, rfl, D, _, rfl, hget, _, rfl, ?_⟩
    cases hm : mkA ps m with
    | some b =>
      have hmp : m ∈ ps.map (·.1) := List.mem_map.mpr ⟨_, mkA_some hm, rfl⟩
      refine iteF ⟨_, W, _, _, _, ps, ys, rfl, e6, nWH, ⟨D6, W6, E6, nd, plt, wlt, ?_, fun x hx y c h => ?_, by omega⟩, by omega⟩
      · rcases zero with h | h | h
        · exact .inl h
        · exact .inr h
        · rw [h]; exact .inl hmp
      · rcases cl x hx y c h with h | h | h
        · exact .inl h
        · exact .inr h
        · rw [h]; exact .inl hmp
    | none =>
      refine iteT ?_
      have hnm := mkA_none hm
      refine ⟨.int (m : Nat), rfl, m, rfl, rfl, by show 2 ≤ sizeLine; omega, fun T nT => ⟨by show 1 ≤ sizeLine; omega, fun G nG => ?_⟩⟩
      have e7 := same_new (o := .tup [V.int ((m / 2 : Nat) : Int), .int 0]) nT
      have hT7 : (upd H6 T (.tup [V.int ((m / 2 : Nat) : Int), .int 0])) T = some (.tup [V.int ((m / 2 : Nat) : Int), .int 0]) := upd_same
      generalize upd H6 T (.tup [V.int ((m / 2 : Nat) : Int), .int 0]) = H7 at e7 hT7 nG ⊢
      have e8 := e7.trans (same_new (o := .lst [V.ref T]) nG)
      have hT8 := same_new (o := .lst [V.ref T]) nG _ _ hT7
      have hG8 : (upd H7 G (.lst [V.ref T])) G = some (.lst [V.ref T]) := upd_same
      have nGW : G ≠ W := (ne_of_none (e7 _ _ W6) nG).symm
      have nGH : H G = none := freeS (e6.trans e7) nG
      have nGD : G ≠ D := (ne_of_none (e7 _ _ D6) nG).symm
      generalize upd H7 G (.lst [V.ref T]) = H8 at e8 hT8 hG8 ⊢
      have lmk : (mkD ps).length = ps.length := List.length_map _
      have lps1 : ((ps ++ [(m, G)]).map (·.1)).Nodup := by
        rw [List.map_append]
        refine List.nodup_append.mpr ⟨nd, List.nodup_cons.mpr ⟨(fun z => nomatch z), List.nodup_nil⟩, fun x hx y hy e => ?_⟩
        rw [e, List.mem_singleton.mp hy] at hx
        exact hnm hx
      have plt1 : ∀ x ∈ ps ++ [(m, G)], x.1 < 256 := fun x hx => by
        rcases List.mem_append.mp hx with h | h
        · exact plt x h
        · rw [List.mem_singleton.mp h]; exact hm256
      have few1 := nd_few lps1 plt1
      rw [List.length_append] at few1
      have few1 : ps.length + 1 ≤ 256 := few1
      have D8 := e8 _ _ D6
      refine ⟨.ref D, rfl, .int (m : Nat), rfl, D, _, rfl, DPut.k (k := Sum.inl ((m : Nat) : Int)) D8 (by omega), ?_⟩
      rw [mkD_put hm]
      have eH8 := e6.trans e8
      have D9 : (upd H8 D (.dK (mkD (ps ++ [(m, G)])))) D = some (.dK (mkD (ps ++ [(m, G)]))) := upd_same
      have e9 : Same H (upd H8 D (.dK (mkD (ps ++ [(m, G)])))) := fun b o z => by rw [upd_ne (ne_of_none z nDH)]; exact eH8 _ _ z
      have W9 : (upd H8 D (.dK (mkD (ps ++ [(m, G)])))) W = some (.lst (nV ys)) := by rw [upd_ne nDW.symm]; exact e8 _ _ W6
      have G9 : (upd H8 D (.dK (mkD (ps ++ [(m, G)])))) G = some (.lst [V.ref T]) := by rw [upd_ne nGD]; exact hG8
      have T9 : (upd H8 D (.dK (mkD (ps ++ [(m, G)])))) T = some (.tup [V.int ((m / 2 : Nat) : Int), .int 0]) := by rw [upd_ne (fun z => by rw [z, D8] at hT8; exact nomatch hT8)]; exact hT8
      have E9 : ∀ x ∈ ps, EdAt (upd H8 D (.dK (mkD (ps ++ [(m, G)])))) x.2 (edM B x.1) ∧ x.2 ≠ W ∧ x.2 ≠ G := fun x hx => by
        obtain ⟨h1, h2⟩ := E6 x hx
        obtain ⟨vs, h3, _⟩ := id h1
        refine ⟨(h1.keep e8).upd D8 (fun _ z => nomatch z) (fun z => by rw [z, D6] at h3; exact nomatch h3), h2, fun z => ?_⟩
        have := e7 _ _ h3
        rw [z, nG] at this; exact nomatch this
      generalize upd H8 D (.dK (mkD (ps ++ [(m, G)]))) = H9 at D9 e9 W9 G9 T9 E9 ⊢
      clear hT8 hG8 D8 e8 eH8 hT7 e7 nG nT E6 W6 D6 e6 hget H8 H7 H6
      have hget : ∀ {H'}, H' D = some (.dK (mkD (ps ++ [(m, G)]))) → DGet H' D (.int (m : Nat)) (some (.ref G)) := fun h => by
        have := DGet.k (k := Sum.inl ((m : Nat) : Int)) h
        rw [mkD_at, mkA_snoc hm] at this
        exact this
      refine ⟨.int (m : Nat), rfl, (m : Nat), 2, rfl, rfl, by show (0 : Int) < 2; decide, rfl, _, rfl, ite2 (fun c => ?ya) (fun c => ?yb)⟩
      case' ya =>
        have c0 : m % 2 = 0 := by
          have := V.int.inj (of_decide_eq_true c)
          omega
        refine ⟨.ref D, rfl, .int (m : Nat), rfl, D, .ref G, rfl, hget D9, .inl ⟨rfl, _, .of G9⟩, .int (m : Nat), rfl, m, rfl, rfl, .int (B : Nat), rfl, _, _, rfl, rfl, by show 2 ≤ sizeLine; omega, fun T2 nT2 => ?_⟩
        have eo : Builtin.bitOr ((m / 2 : Nat) : Int) (B : Int) = ((m / 2 ||| B : Nat) : Int) := orN _ _
        dsimp only
        rw [eo]
        have e10 := same_new (o := .tup [V.int ((m / 2 ||| B : Nat) : Int), .int 1]) nT2
        have T10 : (upd H9 T2 (.tup [V.int ((m / 2 ||| B : Nat) : Int), .int 1])) T2 = some (.tup [V.int ((m / 2 ||| B : Nat) : Int), .int 1]) := upd_same
        generalize upd H9 T2 (.tup [V.int ((m / 2 ||| B : Nat) : Int), .int 1]) = H10 at e10 T10 ⊢
        have G10 := e10 _ _ G9
        refine ⟨G, [V.ref T], .ref T2, rfl, rfl, G10, by show 1 < sizeLine; omega, ?_⟩
        have hs : Same H (upd H10 G (.lst ([V.ref T] ++ [V.ref T2]))) := fun b o z => by rw [upd_ne (ne_of_none z nGH)]; exact e10 _ _ (e9 _ _ z)
        have hD : (upd H10 G (.lst ([V.ref T] ++ [V.ref T2]))) D = some (.dK (mkD (ps ++ [(m, G)]))) := by rw [upd_ne nGD.symm]; exact e10 _ _ D9
        have hW : (upd H10 G (.lst ([V.ref T] ++ [V.ref T2]))) W = some (.lst (nV ys)) := by rw [upd_ne nGW.symm]; exact e10 _ _ W9
        have hG : EdAt (upd H10 G (.lst ([V.ref T] ++ [V.ref T2]))) G (edM B m) := by
          refine ⟨_, upd_same, ?_⟩
          have : edM B m = [(m / 2, 0), (m / 2 ||| B, 1)] := by unfold edM; rw [if_pos c0, halfN]
          rw [this]
          exact .cons ⟨T, rfl, by rw [upd_ne (fun z => by rw [← z, e10 _ _ T9] at G10; exact nomatch G10)]; exact e10 _ _ T9⟩ (.cons ⟨T2, rfl, by rw [upd_ne (fun z => by rw [← z, T10] at G10; exact nomatch G10)]; exact T10⟩ .nil)
        have hE : ∀ x ∈ ps, EdAt (upd H10 G (.lst ([V.ref T] ++ [V.ref T2]))) x.2 (edM B x.1) ∧ x.2 ≠ W := fun x hx => ⟨((E9 x hx).1.keep e10).upd G10 (fun _ z => nomatch z) (E9 x hx).2.2, (E9 x hx).2.1⟩
        generalize upd H10 G (.lst ([V.ref T] ++ [V.ref T2])) = HX at hs hD hW hG hE ⊢
        clear G10 T10 e10 H10 eo nT2 T2 c0
      case' yb =>
        have c0 : ¬ m % 2 = 0 := fun z => c (decide_eq_true (congrArg V.int (by omega)))
        have hs := e9
        have hD := D9
        have hW := W9
        have hG : EdAt H9 G (edM B m) := by
          refine ⟨_, G9, ?_⟩
          have : edM B m = [(m / 2, 0)] := by unfold edM; rw [if_neg c0, halfN]
          rw [this]
          exact .cons ⟨T, rfl, T9⟩ .nil
        have hE : ∀ x ∈ ps, EdAt H9 x.2 (edM B x.1) ∧ x.2 ≠ W := fun x hx => ⟨(E9 x hx).1, (E9 x hx).2.1⟩
        clear c0
      all_goals clear c E9 T9 G9 W9 e9 D9
      all_goals
        obtain ⟨vs, hvs, hP⟩ := id hG
        have lvs : vs.length = (edM B m).length := Paired.length hP
        have led : (edM B m).length ≤ 2 := by unfold edM; split <;> simp
        refine ⟨.ref W, rfl, .ref D, rfl, .int (m : Nat), rfl, D, .ref G, rfl, hget hD, G, rfl, ⟨_, .of hvs⟩, fun L nL => ?_⟩
        refine lc_list (K := K) (a := G) (xs := vs) (fun i H' => Same _ H' ∧ H' L = some (.lst (nV (((edM B m).take i).map (·.1))))) ⟨same_new nL, upd_same⟩ (fun i H' _ h => .of (h.1 _ _ hvs)) (fun i x H' hx h => ?_) (fun H11 h => ?_)
        · obtain ⟨e, hL⟩ := h
          obtain ⟨ed, hed, t, rfl, ht⟩ := paired_get hP hx
          refine ⟨t, _, rfl, .of (e _ _ ht), rfl, _, _, rfl, _, _, rfl, rfl, rfl, .int (ed.1 : Nat), rfl, _, hL, ?_, fun b o zz => ?_, ?_⟩
          · show (nV (((edM B m).take i).map (·.1))).length < sizeLine
            unfold nV
            rw [List.length_map, List.length_map, List.length_take]; omega
          · rw [upd_ne (ne_of_none zz nL)]; exact e _ _ zz
          · rw [upd_same, List.take_add_one, hed, List.map_append]; unfold nV; rw [List.map_append]; rfl
        · obtain ⟨e, hL⟩ := h
          rw [lvs, List.take_length] at hL
          refine ⟨W, L, nV ys, _, rfl, rfl, e _ _ hW, hL, ?_, fun W2 nW2 => ?_⟩
          · unfold nV
            rw [List.length_map, List.length_map, List.length_map]; omega
          have e12 := hs.trans e
          have e13 := same_new (o := .lst (nV ys ++ nV ((edM B m).map (·.1)))) nW2
          have eW : nV ys ++ nV ((edM B m).map (·.1)) = nV (ys ++ (edM B m).map (·.1)) := by unfold nV; rw [List.map_append]
          refine ⟨_, W2, _, _, _, ps ++ [(m, G)], ys ++ (edM B m).map (·.1), rfl, e12.trans e13, freeS e12 nW2, ⟨e13 _ _ (e _ _ hD), by rw [eW]; exact upd_same, fun x hx => ?_, lps1, plt1, fun y hy => ?_, ?_, fun x hx y c h => ?_, ?_⟩, ?_⟩
          · have hx1 : EdAt H11 x.2 (edM B x.1) := by
              rcases List.mem_append.mp hx with h | h
              · exact (hE x h).1.keep e
              · rw [List.mem_singleton.mp h]; exact hG.keep e
            refine ⟨hx1.keep e13, fun z => ?_⟩
            obtain ⟨_, h1, _⟩ := hx1
            rw [z, nW2] at h1; exact nomatch h1
          · rcases List.mem_append.mp hy with h | h
            · exact wlt y h
            · obtain ⟨⟨x, c⟩, hx, rfl⟩ := List.mem_map.mp h
              exact ed_small hB hm256 hx
          · rw [List.map_append, List.mem_append, List.mem_append]
            rcases zero with h | h | h
            · exact .inl (.inl h)
            · exact .inr (.inl h)
            · exact .inl (.inr (by rw [h]; exact List.mem_singleton.mpr rfl))
          · rw [List.map_append, List.mem_append, List.mem_append]
            rcases List.mem_append.mp hx with hx | hx
            · rcases cl x hx y c h with h | h | h
              · exact .inl (.inl h)
              · exact .inr (.inl h)
              · exact .inl (.inr (by rw [h]; exact List.mem_singleton.mpr rfl))
            · rw [List.mem_singleton.mp hx] at h
              exact .inr (.inr (List.mem_map.mpr ⟨_, h, rfl⟩))
          · rw [List.length_append, List.length_append, List.length_map]
            show _ ≤ 1 + 2 * (ps.length + 1)
            omega
          · rw [List.length_append, List.length_append, List.length_map]
            show 3 * (256 - (ps.length + 1)) + _ < _
            omega
end
end Sg
set_option Elab.async false
set_option linter.all false
set_option maxRecDepth 100000
set_option maxHeartbeats 4000000
namespace Sg
open PySem PySem.Spec PyProof.Rows L2 StX
/-! ## the law's rows: the most starts to each mask -/
def snPut (L : SnL) (y v : Nat) : SnL := if (snV L y).isSome then L.map (fun x => if x.1 = y then (x.1, v) else x) else L ++ [(y, v)]
theorem snD_putP (L : SnL) (y v : Nat) : putK (snD L) (Sum.inl (y : Int)) (V.int (v : Nat)) = snD (snPut L y v) := by
  unfold putK snPut
  rw [valV_any, snD_at, Option.isSome_map]
  cases (snV L y).isSome with
  | false => rw [if_neg (by decide), if_neg (by decide)]; unfold snD; rw [List.map_append]; rfl
  | true =>
    rw [if_pos rfl, if_pos rfl]
    unfold snD
    rw [List.map_map, List.map_map]
    refine List.map_congr_left fun x _ => ?_
    show (if (Sum.inl (x.1 : Int) : L2.Key) = Sum.inl (y : Int) then ((Sum.inl (x.1 : Int) : L2.Key), V.int (v : Nat)) else (Sum.inl (x.1 : Int), V.int (x.2 : Nat))) = _
    by_cases z : x.1 = y
    · rw [if_pos (by rw [z])]
      show _ = ((Sum.inl (((if x.1 = y then (x.1, v) else x) : Nat × Nat).1 : Int) : L2.Key), V.int (((if x.1 = y then (x.1, v) else x) : Nat × Nat).2 : Nat))
      rw [if_pos z]
    · rw [if_neg (fun c => z (by have := Sum.inl.inj c; omega))]
      show _ = ((Sum.inl (((if x.1 = y then (x.1, v) else x) : Nat × Nat).1 : Int) : L2.Key), V.int (((if x.1 = y then (x.1, v) else x) : Nat × Nat).2 : Nat))
      rw [if_neg z]
theorem snV_putP (L : SnL) (y v z : Nat) : snV (snPut L y v) z = if z = y then some v else snV L z := by
  have h := valV_put (snD L) (Sum.inl (y : Int)) (Sum.inl (z : Int)) (V.int (v : Nat))
  rw [snD_putP, snD_at, snD_at] at h
  by_cases e : z = y
  · rw [if_pos (by rw [e])] at h
    rw [if_pos e]
    obtain ⟨a, ha, h2⟩ := Option.map_eq_some_iff.mp h
    rw [ha]
    have := V.int.inj h2
    exact congrArg some (by omega)
  · rw [if_neg (fun c => e (by have := Sum.inl.inj c; omega))] at h
    rw [if_neg e]
    cases h1 : snV (snPut L y v) z with
    | none =>
      cases h2 : snV L z with
      | none => rfl
      | some b => rw [h1, h2] at h; exact nomatch h
    | some a =>
      cases h2 : snV L z with
      | none => rw [h1, h2] at h; exact nomatch h
      | some b =>
        rw [h1, h2] at h
        have := V.int.inj (Option.some.inj h)
        exact congrArg some (by omega)
theorem snPut_nd {L : SnL} (nd : (L.map (·.1)).Nodup) (y v : Nat) : ((snPut L y v).map (·.1)).Nodup := by
  unfold snPut
  split
  · rw [List.map_map, show ((fun x : Nat × Nat => x.1) ∘ fun x : Nat × Nat => if x.1 = y then (x.1, v) else x) = fun x : Nat × Nat => x.1 from funext fun x => by show (if x.1 = y then (x.1, v) else x).1 = x.1; split <;> rfl]
    exact nd
  · rename_i h
    refine nd_snoc nd (snV_none ?_)
    cases z : snV L y with
    | none => rfl
    | some b => rw [z] at h; exact absurd rfl h
theorem wk_in {B : Nat} {M : List Nat} (h0 : 0 ∈ M) (hE : ∀ u, u ∈ M → ∀ y c, (y, c) ∈ edM B u → y ∈ M) {n v : Nat} {g : Int} (w : Wk (edM B) 0 n g v) : v ∈ M := by
  induction w with
  | nil => exact h0
  | snoc _ e ih => exact hE _ ih _ _ e
theorem pair_uniq : ∀ {L : SnL}, (L.map (·.1)).Nodup → ∀ {v a b : Nat}, (v, a) ∈ L → (v, b) ∈ L → a = b
  | [], _, _, _, _, h, _ => nomatch h
  | x :: L, nd, v, a, b, h, k => by
    rw [List.map_cons, List.nodup_cons] at nd
    rcases List.mem_cons.mp h with h | h
    · rcases List.mem_cons.mp k with k | k
      · rw [← h] at k; exact (Prod.mk.inj k).2.symm
      · exact absurd (List.mem_map.mpr ⟨_, k, by rw [← h]⟩) nd.1
    · rcases List.mem_cons.mp k with k | k
      · exact absurd (List.mem_map.mpr ⟨_, h, by rw [← k]⟩) nd.1
      · exact pair_uniq nd.2 h k
structure RowOk (B k : Nat) (L : SnL) : Prop where
  nd : (L.map (·.1)).Nodup
  is : ∀ x ∈ L, Wk (edM B) 0 k (x.2 : Int) x.1
  ex : ∀ v g, Wk (edM B) 0 k g v → ∃ g' : Nat, snV L v = some g' ∧ g ≤ g'
/-- while a row is made: what was offered is kept -/
structure RStep (B k : Nat) (R : SnL) (D : List (Nat × Int)) : Prop where
  nd : (R.map (·.1)).Nodup
  is : ∀ x ∈ R, Wk (edM B) 0 (k + 1) (x.2 : Int) x.1
  ex : ∀ e ∈ D, ∃ g' : Nat, snV R e.1 = some g' ∧ e.2 ≤ g'
theorem row_start (B : Nat) : RowOk B 0 [(0, 0)] := by
  refine ⟨List.nodup_cons.mpr ⟨(fun z => nomatch z), List.nodup_nil⟩, fun x hx => by rw [List.mem_singleton.mp hx]; exact .nil, fun v g w => ?_⟩
  cases w
  exact ⟨0, rfl, Int.le_refl _⟩
theorem rstep_start (B k : Nat) : RStep B k [] [] := ⟨List.nodup_nil, (fun x hx => nomatch hx), (fun x hx => nomatch hx)⟩
theorem RStep.put {B k : Nat} {R : SnL} {D : List (Nat × Int)} (h : RStep B k R D) {y n : Nat} {x : Int} (hw : Wk (edM B) 0 (k + 1) x y) (hn : (n : Int) = if x > (((snV R y).getD 0 : Nat) : Int) then x else (((snV R y).getD 0 : Nat) : Int)) (h0 : 0 ≤ x) : RStep B k (snPut R y n) (D ++ [(y, x)]) := by
  have hle : x ≤ n := by rw [hn]; split <;> omega
  have hle2 : (((snV R y).getD 0 : Nat) : Int) ≤ n := by rw [hn]; split <;> omega
  have hwn : Wk (edM B) 0 (k + 1) (n : Int) y := by
    rw [hn]
    split
    · exact hw
    · rename_i hx
      cases z : snV R y with
      | none =>
        rw [z] at hx
        have hx : ¬ x > 0 := hx
        obtain rfl : x = 0 := by omega
        exact hw
      | some b => exact h.is _ (snV_some z)
  refine ⟨snPut_nd h.nd y n, fun e he => ?_, fun e he => ?_⟩
  · have hv : snV (snPut R y n) e.1 = some e.2 := by
      have nd := snPut_nd h.nd y n
      cases z : snV (snPut R y n) e.1 with
      | none => exact absurd rfl (snV_none z e he)
      | some b =>
        have hm := snV_some z
        have := pair_uniq (v := e.1) (a := b) (b := e.2) nd hm he
        rw [this]
    rw [snV_putP] at hv
    by_cases c : e.1 = y
    · rw [if_pos c] at hv
      rw [← Option.some.inj hv, c]; exact hwn
    · rw [if_neg c] at hv
      exact h.is _ (snV_some hv)
  · rw [snV_putP]
    rcases List.mem_append.mp he with he | he
    · obtain ⟨g', h1, h2⟩ := h.ex e he
      by_cases c : e.1 = y
      · rw [if_pos c]
        rw [c] at h1
        rw [h1] at hle2
        exact ⟨n, rfl, Int.le_trans h2 hle2⟩
      · rw [if_neg c]; exact ⟨g', h1, h2⟩
    · rw [List.mem_singleton.mp he, if_pos rfl]
      exact ⟨n, rfl, hle⟩
theorem RStep.done {B k : Nat} {L R : SnL} (hL : RowOk B k L) (h : RStep B k R (L.flatMap fun p => (edM B p.1).map fun e => (e.1, (p.2 : Int) + e.2))) : RowOk B (k + 1) R := by
  refine ⟨h.nd, h.is, fun v g w => ?_⟩
  cases w with
  | snoc w e =>
    obtain ⟨g', h1, h2⟩ := hL.ex _ _ w
    obtain ⟨g2, h3, h4⟩ := h.ex _ (List.mem_flatMap.mpr ⟨_, snV_some h1, List.mem_map.mpr ⟨_, e, rfl⟩⟩)
    exact ⟨g2, h3, Int.le_trans (Int.add_le_add_right h2 _) h4⟩
section
variable {P : Program} {w : World} {K : PySem.W.Frag} {mg : Str → Option Value} {base : Heap}
/-! ### _law_rows -/
def DctAt (H : Hp) (a : Addr) (L : SnL) : Prop := H a = some (.dK (snD L))
def spRows : Sp := fun vs H Q _ => ∃ (D : Addr) (B : Nat) (ps : List (Nat × Addr)), vs = [.ref D] ∧ MaskAt H D B ps ∧ 
  ∀ H' R rs Ls, Same H H' → H' R = some (.lst (rs.map V.ref)) → Paired (DctAt H') rs Ls → Ls.length = ps.length + 1 → (∀ k L, Ls[k]? = some L → RowOk B k L) → Q (.ref R) H'
theorem ok_rows {f : Addr} {fd : FuncData} {k : Nat} (F : Fun K "_law_rows" "_law_rows" s_l_rows f fd) (m1 : mg "range" = none) (m2 : mg "len" = none) (m3 : mg "max" = none) : FnOk P w K mg base CX0 (k + 1) f fd ["_law_found"] spRows := by
  refine F.ok sc_l_rows (fun vs H Q E h => ?_) (fun cdv A outer s H vs Q E hr h => ?_)
  · obtain ⟨D, B, ps, rfl, _⟩ := h; rfl
  · obtain ⟨D, B, ps, rfl, M, q⟩ := h
    have hu2 := hu_of hr
    refine ⟨_, pss_cons (ps_set (i := 1) sc_l_rows.nd rfl (.inl rfl) (pe_lst (pa_cons (pe_disp (pps_cons pe_int pe_int pps_nil) rfl rfl (fun z => nomatch z) (by decide)) pa_nil)))
      (pss_cons (ps_for PassesOwn.never rfl (pi_range1 (by rfl) m1 (pa_cons (pe_callB call_lenD (by rfl) m2 PySem.boot_len (pa_cons (pv 0) pa_nil)) pa_nil)) (pg_name (i := 2) sc_l_rows.nd rfl (.inl rfl))
        (pss_cons (ps_set (i := 3) sc_l_rows.nd rfl (.inl rfl) pe_dnewK)
        (pss_cons (ps_lock (ps_for PassesOwn.never rfl (pi_keys (pe_ix ix_list (pv 1) (pe_un un_neg pe_int) (fun _ _ => rfl))) (pg_name (i := 4) sc_l_rows.nd rfl (.inl rfl))
          (pss_one (ps_for PassesOwn.never rfl (pi_list (pe_dget hu2 (pv 0) (pv 4) (fun _ _ => rfl))) (pg_tup rfl (pgs_cons (pg_name (i := 5) sc_l_rows.nd rfl (.inl rfl)) (pgs_cons (pg_name (i := 6) sc_l_rows.nd rfl (.inl rfl)) pgs_nil)))
            (pss_one (ps_dput hu2 (pv 3) (pv 5) (pe_callB (call_max2 rfl) (by rfl) m3 (by decide +kernel) (pa_cons (pe_dget2 hu2 (pv 3) (pv 5) pe_int ⟨by rfl, by rfl, by rfl, by rfl⟩)
              (pa_cons (pe_op op_add (pe_dget hu2 (pe_ix ix_list (pv 1) (pe_un un_neg pe_int) (fun _ _ => rfl)) (pv 4) (fun _ _ => rfl)) (pv 6)) pa_nil))) rfl))))))
        (pss_one (ps_expr (pe_bm PySem.F.plainAttrs_list PySem.F.slot_list_append PySem.F.type_list_append mt_append (pv 1) (pa_cons (pv 3) pa_nil)))))))
      (pss_one (ps_ret (pv 1)))), ?_⟩
    have big : 400000 ≤ sizeLine := by rw [sizeLine_eq]; decide
    have lps := nd_few M.nd M.lt
    have lmk : (mkD ps).length = ps.length := List.length_map _
    have hin : ∀ {n v g}, Wk (edM B) 0 n g v → v ∈ ps.map (·.1) := fun w => wk_in M.zero (fun u hu y c h => by
      obtain ⟨x, hx, rfl⟩ := List.mem_map.mp hu
      exact M.cl x hx y c h) w
    have lt256 : ∀ {n v g}, Wk (edM B) 0 n g v → v < 256 := fun w => by
      obtain ⟨x, hx, rfl⟩ := List.mem_map.mp (hin w)
      exact M.lt x hx
    intro Z nZ
    refine ⟨upd_same, [(Sum.inl 0, .int 0)], rfl, by show 1 ≤ 15; decide, by show 1 ≤ sizeLine; omega, fun R nR => ?_⟩
    have e1 : Same H (upd (upd H Z (.dK [])) Z (.dK (mergeK [] [((Sum.inl 0 : L2.Key), V.int 0)]))) := fun b o z => by rw [upd_ne (ne_of_none z nZ), upd_ne (ne_of_none z nZ)]; exact z
    have hZ1 : (upd (upd H Z (.dK [])) Z (.dK (mergeK [] [((Sum.inl 0 : L2.Key), V.int 0)]))) Z = some (.dK (snD [(0, 0)])) := upd_same
    generalize upd (upd H Z (.dK [])) Z (.dK (mergeK [] [((Sum.inl 0 : L2.Key), V.int 0)])) = H1 at e1 hZ1 nR ⊢
    have e2 := e1.trans (same_new (o := .lst [V.ref Z]) nR)
    have nRH : H R = none := freeS e1 nR
    have hZ2 := same_new (o := .lst [V.ref Z]) nR _ _ hZ1
    have hR2 : (upd H1 R (.lst [V.ref Z])) R = some (.lst ([Z].map V.ref)) := upd_same
    generalize upd H1 R (.lst [V.ref Z]) = H2 at e2 hZ2 hR2 ⊢
    clear hZ1 nR e1 H1
    refine ⟨.ref D, rfl, D, _, rfl, e2 _ _ M.at_, ((mkD ps).length : Nat), rfl, by omega, by omega, ?_⟩
    rw [lmk]
    refine for_range (lo := 0) (n := ((ps.length : Nat) : Int).toNat) (fun i σ H' => ∃ v2 v3 v4 v5 v6 rs Ls, σ = [some (.ref D), some (.ref R), v2, v3, v4, v5, v6] ∧ Same H H' ∧ H' R = some (.lst (rs.map V.ref)) ∧ Paired (DctAt H') rs Ls ∧ Ls.length = i + 1 ∧ (∀ a ∈ rs, H a = none) ∧ ∀ k L, Ls[k]? = some L → RowOk B k L)
      ⟨_, _, _, _, _, [Z], [[(0, 0)]], rfl, e2, hR2, .cons hZ2 .nil, rfl, fun a h => by rw [List.mem_singleton.mp h]; exact nZ, fun k L h => by
        obtain ⟨h1, h2⟩ := List.getElem?_eq_some_iff.mp h
        obtain rfl : k = 0 := by have : k < 1 := h1; omega
        obtain rfl : [(0, 0)] = L := h2
        exact row_start B⟩ ?_ ?_
    rotate_left
    · rintro σ H3 ⟨v2, v3, v4, v5, v6, rs, Ls, rfl, e3, hR3, hP, hl, _, hok⟩
      rw [Int.toNat_natCast] at hl
      exact ⟨.ref R, rfl, q H3 R rs Ls e3 hR3 hP hl hok⟩
    clear e2 hZ2 hR2 H2 nZ Z
    rintro i σ H4 hi ⟨v2, v3, v4, v5, v6, rs, Ls, rfl, e4, hR4, hP4, hl, hnew, hok⟩
    rw [Int.toNat_natCast] at hi
    have lrs : rs.length = Ls.length := Paired.length hP4
    obtain ⟨rs0, r, rfl⟩ : ∃ a b, rs = a ++ [b] := ⟨_, _, (List.dropLast_concat_getLast (fun z => by rw [z, hl] at lrs; exact nomatch lrs)).symm⟩
    have lrs0 : rs0.length = i := by rw [List.length_append, hl] at lrs; have : rs0.length + 1 = i + 1 := lrs; omega
    obtain ⟨L, hLi, hr4⟩ := paired_get hP4 (show (rs0 ++ [r])[i]? = some r by rw [List.getElem?_append_right (by omega), lrs0, Nat.sub_self]; rfl)
    have OL := hok i L hLi
    have nrH := hnew r (List.mem_append_right _ (List.mem_singleton.mpr rfl))
    intro W nW
    have nWH : H W = none := freeS e4 nW
    have e5 := same_new (o := .dK []) nW
    have hW5 : (upd H4 W (.dK [])) W = some (.dK (snD [])) := upd_same
    have nrW : r ≠ W := ne_of_none hr4 nW
    have nRW : R ≠ W := ne_of_none hR4 nW
    have nRr : R ≠ r := fun z => by rw [z] at hR4; have := hr4.symm.trans hR4; exact nomatch this
    have hR5 := e5 _ _ hR4
    have hr5 := e5 _ _ hr4
    have eH5 := e4.trans e5
    have hP5 : Paired (fun a L => DctAt (upd H4 W (.dK [])) a L ∧ a ≠ W) (rs0 ++ [r]) Ls := paired_imp hP4 fun a L h => ⟨e5 _ _ h, ne_of_none h nW⟩
    generalize upd H4 W (.dK []) = H5 at e5 hW5 hR5 hr5 hP5 eH5 ⊢
    clear hP4 hR4 hr4 nW e4 e5 H4
    have nDr : D ≠ r := ne_of_none M.at_ nrH
    have nDW : D ≠ W := ne_of_none M.at_ nWH
    refine ⟨r, _, hr5, trivial, fun od => ?_⟩
    have eH6 : Same H (upd H5 r (.frz od (.dK (snD L)))) := fun b o z => by rw [upd_ne (ne_of_none z nrH)]; exact eH5 _ _ z
    have k6 : ∀ b o, b ≠ r → b ≠ W → H5 b = some o → (upd H5 r (.frz od (.dK (snD L)))) b = some o := fun b o h _ z => by rw [upd_ne h]; exact z
    have hr6 : (upd H5 r (.frz od (.dK (snD L)))) r = some (.frz od (.dK (snD L))) := upd_same
    have hW6 : (upd H5 r (.frz od (.dK (snD L)))) W = some (.dK (snD [])) := by rw [upd_ne nrW.symm]; exact hW5
    generalize upd H5 r (.frz od (.dK (snD L))) = H6 at eH6 k6 hr6 hW6 ⊢
    have lL : (snD L).length = L.length := List.length_map _
    refine ⟨.ref R, rfl, 1, rfl, R, _, -1, .ref r, rfl, rfl, .of (k6 _ _ nRr nRW hR5), by rw [List.map_append]; exact atI_last _ _, r, od, rfl, .inl ⟨snD L, hr6, ?_⟩⟩
    refine for_it walk_keys (fun j σ H' => ∃ v4 v5 v6 Rw, σ = [some (.ref D), some (.ref R), some (.int (0 + (i : Nat))), some (.ref W), v4, v5, v6] ∧ Same H H' ∧ (∀ b o, b ≠ r → b ≠ W → H5 b = some o → H' b = some o) ∧ H' r = some (.frz od (.dK (snD L))) ∧ H' W = some (.dK (snD Rw)) ∧
        RStep B i Rw ((L.take j).flatMap fun p => (edM B p.1).map fun e => (e.1, (p.2 : Int) + e.2)))
      ⟨_, _, _, [], rfl, eH6, k6, hr6, hW6, rstep_start B i⟩ (fun j σ H' _ h => ?_) (fun j x σ H' H'' hj h hY => ?_) (fun σ H7 h => ?_)
    · obtain ⟨_, _, _, _, _, _, _, h, _⟩ := h
      exact h
    · obtain ⟨v4, v5, v6, Rw, rfl, e7, k7, hr7, hW7, st⟩ := h
      obtain ⟨rfl, kk, vv, hk, rfl⟩ := hY
      unfold snD at hk
      rw [List.getElem?_map] at hk
      obtain ⟨⟨m, gm⟩, hmj, eg⟩ := Option.map_eq_some_iff.mp hk
      obtain ⟨rfl, rfl⟩ : (Sum.inl (m : Int) : L2.Key) = kk ∧ V.int (gm : Nat) = vv := ⟨congrArg Prod.fst eg, congrArg Prod.snd eg⟩
      have hmL := List.mem_of_getElem? hmj
      have wm := OL.is _ hmL
      have step : (L.take (j + 1)).flatMap (fun p => (edM B p.1).map fun e => (e.1, (p.2 : Int) + e.2)) = (L.take j).flatMap (fun p => (edM B p.1).map fun e => (e.1, (p.2 : Int) + e.2)) ++ (edM B m).map fun e => (e.1, (gm : Int) + e.2) := by
        rw [List.take_add_one, hmj, List.flatMap_append]; simp
      rw [step]
      generalize (L.take j).flatMap (fun p => (edM B p.1).map fun e => (e.1, (p.2 : Int) + e.2)) = D0 at st ⊢
      obtain ⟨G, hG⟩ := mkA_ex (hin wm)
      have hGE := M.ed _ (mkA_some hG)
      have getD : ∀ {H'}, Same H H' → DGet H' D (.int (m : Nat)) (some (.ref G)) := fun e => by
        have := DGet.k (k := Sum.inl ((m : Nat) : Int)) (e _ _ M.at_)
        rw [mkD_at, hG] at this
        exact this
      obtain ⟨vs, hvs, hP⟩ := hGE
      have lvs : vs.length = (edM B m).length := Paired.length hP
      refine ⟨.ref D, rfl, .int (m : Nat), rfl, D, .ref G, rfl, getD e7, G, rfl, ⟨_, .of (e7 _ _ hvs)⟩, ?_⟩
      refine for_list (K := K) (a := G) (xs := vs) (fun t σ H' => ∃ v5 v6 Rw, σ = [some (.ref D), some (.ref R), some (.int (0 + (i : Nat))), some (.ref W), some (.int (m : Nat)), v5, v6] ∧ Same H H' ∧ (∀ b o, b ≠ r → b ≠ W → H5 b = some o → H' b = some o) ∧ H' r = some (.frz od (.dK (snD L))) ∧ H' W = some (.dK (snD Rw)) ∧
          RStep B i Rw (D0 ++ ((edM B m).take t).map fun e => (e.1, (gm : Int) + e.2)))
        ⟨_, _, Rw, rfl, e7, k7, hr7, hW7, by rw [List.take_zero, List.map_nil, List.append_nil]; exact st⟩ (fun t σ H' _ h => ?_) (fun t x σ H8 hx h => ?_) (fun σ H8 h => ?_)
      · obtain ⟨_, _, _, _, e, _⟩ := h
        exact .of (e _ _ hvs)
      · obtain ⟨v5, v6, Rw, rfl, e8, k8, hr8, hW8, st⟩ := h
        obtain ⟨⟨y, c⟩, hed, tt, rfl, ht⟩ := paired_get hP hx
        have hem := List.mem_of_getElem? hed
        have c0 : 0 ≤ c := by
          obtain ⟨b, _, rfl⟩ := ed_stM hem
          split <;> decide
        have st2 : ((edM B m).take (t + 1)).map (fun e => (e.1, (gm : Int) + e.2)) = ((edM B m).take t).map (fun e => (e.1, (gm : Int) + e.2)) ++ [(y, (gm : Int) + c)] := by
          rw [List.take_add_one, hed, List.map_append]; rfl
        rw [st2, ← List.append_assoc]
        generalize D0 ++ ((edM B m).take t).map (fun e => (e.1, (gm : Int) + e.2)) = D1 at st ⊢
        have getW : DGet H8 W (.int (y : Nat)) ((snV Rw y).map fun s => V.int (s : Nat)) := by
          rw [← snD_at]
          exact DGet.k (k := Sum.inl ((y : Nat) : Int)) hW8
        have getr : DGet H8 r (.int (m : Nat)) (some (.int (gm : Nat))) := by
          refine .inl ⟨snD L, Sum.inl ((m : Nat) : Int), .inr ⟨od, hr8⟩, rfl, ?_⟩
          rw [snD_at]
          cases z : snV L m with
          | none => exact absurd rfl (snV_none z _ hmL)
          | some b => rw [pair_uniq OL.nd hmL (snV_some z)]; rfl
        have hgd : ((snV Rw y).map fun s => V.int (s : Nat)).getD (.int 0) = .int (((snV Rw y).getD 0 : Nat) : Int) := by cases snV Rw y <;> rfl
        refine ⟨tt, _, rfl, .of (e8 _ _ ht), rfl, _, _, rfl, _, _, rfl, rfl, ?_⟩
        refine ⟨.ref W, rfl, W, rfl, .inl ⟨_, .inl hW8⟩, .int (y : Nat), rfl, _, getW, ?_⟩
        rw [hgd]
        refine ⟨.ref R, rfl, 1, rfl, R, _, -1, .ref r, rfl, rfl, .of (k8 _ _ nRr nRW hR5), by rw [List.map_append]; exact atI_last _ _, .int (m : Nat), rfl, r, .int (gm : Nat), rfl, getr, .int c, rfl, _, _, rfl, rfl, _, _, rfl, ?_⟩
        have wy := wm.snoc hem
        have fewR : Rw.length ≤ 256 := sn_len st.nd fun x hx => lt256 (st.is x hx)
        obtain ⟨n, hn⟩ : ∃ n : Nat, (n : Int) = if (gm : Int) + c > (((snV Rw y).getD 0 : Nat) : Int) then (gm : Int) + c else (((snV Rw y).getD 0 : Nat) : Int) := by
          refine ⟨(if (gm : Int) + c > (((snV Rw y).getD 0 : Nat) : Int) then (gm : Int) + c else (((snV Rw y).getD 0 : Nat) : Int)).toNat, ?_⟩
          split <;> omega
        have st3 := st.put wy hn (by omega)
        rw [← hn]
        have lsn : (snD Rw).length = Rw.length := List.length_map _
        refine ⟨.ref W, rfl, .int (y : Nat), rfl, W, _, rfl, DPut.k (k := Sum.inl ((y : Nat) : Int)) hW8 (by omega), ?_⟩
        rw [snD_putP]
        exact ⟨_, _, snPut Rw y n, rfl, fun b o z => by rw [upd_ne (ne_of_none z nWH)]; exact e8 _ _ z, fun b o h1 h2 z => by rw [upd_ne h2]; exact k8 _ _ h1 h2 z, by rw [upd_ne nrW]; exact hr8, upd_same, st3⟩
      · obtain ⟨v5, v6, Rw, rfl, e8, k8, hr8, hW8, st⟩ := h
        rw [lvs, List.take_length] at st
        exact ⟨_, _, _, Rw, rfl, e8, k8, hr8, hW8, st⟩
    · obtain ⟨v4, v5, v6, Rw, rfl, e7, k7, hr7, hW7, st⟩ := h
      rw [lL, List.take_length] at st
      have O2 := st.done OL
      refine ⟨hr7, ?_⟩
      have eH8 : Same H (upd H7 r (.dK (snD L))) := fun b o z => by rw [upd_ne (ne_of_none z nrH)]; exact e7 _ _ z
      have k8 : ∀ b o, b ≠ W → H5 b = some o → (upd H7 r (.dK (snD L))) b = some o := fun b o h z => by
        by_cases c : b = r
        · rw [c] at z ⊢; rw [upd_same, ← z, hr5]
        · rw [upd_ne c]; exact k7 _ _ c h z
      have hW8 : (upd H7 r (.dK (snD L))) W = some (.dK (snD Rw)) := by rw [upd_ne nrW.symm]; exact hW7
      generalize upd H7 r (.dK (snD L)) = H8 at eH8 k8 hW8 ⊢
      have hR8 := k8 _ _ nRW hR5
      have lrs1 : ((rs0 ++ [r]).map V.ref).length = i + 1 := by rw [List.length_map, lrs, hl]
      refine ⟨.ref R, rfl, .inl ⟨rfl, _, .of hR8⟩, .ref W, rfl, R, _, _, rfl, rfl, hR8, by rw [lrs1]; omega, ?_⟩
      have eR : (rs0 ++ [r]).map V.ref ++ [V.ref W] = ((rs0 ++ [r]) ++ [W]).map V.ref := by rw [List.map_append (l₂ := [W])]; rfl
      rw [eR]
      refine ⟨_, _, _, _, _, (rs0 ++ [r]) ++ [W], Ls ++ [Rw], rfl, fun b o z => by rw [upd_ne (ne_of_none z nRH)]; exact eH8 _ _ z, upd_same, ?_, by rw [List.length_append, hl]; rfl, fun a ha => ?_, fun k2 L2 h2 => ?_⟩
      · refine Paired.snoc (paired_imp hP5 fun a L2 h => ?_) ?_
        · show (upd H8 R _) a = _
          obtain ⟨h, haW⟩ := h
          rw [upd_ne (fun z => by rw [z] at h; have := hR5.symm.trans h; exact nomatch this)]
          exact k8 _ _ haW h
        · show (upd H8 R _) W = _
          rw [upd_ne nRW.symm]; exact hW8
      · rcases List.mem_append.mp ha with h | h
        · exact hnew a h
        · rw [List.mem_singleton.mp h]; exact nWH
      · rcases Nat.lt_or_ge k2 Ls.length with h | h
        · rw [List.getElem?_append_left h] at h2; exact hok k2 L2 h2
        · rw [List.getElem?_append_right h] at h2
          have h3 := (List.getElem?_eq_some_iff.mp h2).1
          have e : k2 - Ls.length = 0 := by have : k2 - Ls.length < 1 := h3; omega
          rw [e] at h2
          obtain rfl : Rw = L2 := Option.some.inj h2
          rw [show k2 = i + 1 by omega]
          exact O2
end
end Sg
set_option Elab.async false
set_option linter.all false
set_option maxRecDepth 100000
set_option maxHeartbeats 4000000
namespace Sg
open PySem PySem.Spec PyProof.Rows L2 StX
def FrAt (H : Hp) (t : Addr) (hi : Int × Int) : Prop := H t = some (.tup [.int hi.1, .int hi.2])
/-- the rows as a table -/
def tabD (Ls : List SnL) (k v : Nat) : Option Int := (Ls[k]?).bind fun L => (snV L v).map fun g => ((g : Nat) : Int)
theorem tab_at {Ls : List SnL} {k : Nat} {L : SnL} (h : Ls[k]? = some L) (v : Nat) : tabD Ls k v = (snV L v).map fun g => ((g : Nat) : Int) := by
  unfold tabD; rw [h]; rfl
theorem tab_best {B N : Nat} {Ls : List SnL} (hl : Ls.length = N + 1) (ok : ∀ k L, Ls[k]? = some L → RowOk B k L) : BestWk (edM B) 0 N (tabD Ls) := by
  refine ⟨fun k v g h => ?_, fun k v g hk w => ?_⟩
  · unfold tabD at h
    obtain ⟨L, hL, h⟩ := Option.bind_eq_some_iff.mp h
    obtain ⟨n, hn, rfl⟩ := Option.map_eq_some_iff.mp h
    exact (ok k L hL).is _ (snV_some hn)
  · have hL : Ls[k]? = some (Ls[k]'(by omega)) := List.getElem?_eq_getElem _
    obtain ⟨g', h1, h2⟩ := (ok k _ hL).ex v g w
    exact ⟨g', by rw [tab_at hL, h1]; rfl, h2⟩
theorem wk_gain {B : Nat} {u n v : Nat} {g : Int} (w : Wk (edM B) u n g v) : 0 ≤ g ∧ g ≤ (n : Int) := by
  induction w with
  | nil => exact ⟨Int.le_refl _, Int.le_refl _⟩
  | snoc _ e ih =>
    obtain ⟨c, _, rfl⟩ := ed_stM e
    rw [Int.natCast_succ]
    cases c <;> simp <;> omega
theorem snV_mem {L : SnL} (nd : (L.map (·.1)).Nodup) {x : Nat × Nat} (h : x ∈ L) : snV L x.1 = some x.2 := by
  cases z : snV L x.1 with
  | none => exact absurd rfl (snV_none z _ h)
  | some b => rw [pair_uniq (v := x.1) (a := b) (b := x.2) nd (snV_some z) h]
section
variable {P : Program} {w : World} {K : PySem.W.Frag} {mg : Str → Option Value} {base : Heap}
/-! ### _law_gap -/
def spLGap : Sp := fun vs H Q _ => ∃ (D : Addr) (B : Nat) (ps : List (Nat × Addr)), vs = [.ref D] ∧ MaskAt H D B ps ∧
  ∀ H' t p, Same H H' → FrAt H' t p → (0 ≤ p.1 ∧ p.1 ≤ 256 ∧ 0 ≤ p.2 ∧ p.2 ≤ 256) → (∀ (x : List Int) (hi : Int × Int) (cs : List (Option Nat)), IsB B (barsN x x) → BestC [x] [1] hi cs → p = (hi.2, hi.1)) → Q (.ref t) H'
theorem ok_lgap {f f1 f2 : Addr} {fd fd1 fd2 : FuncData} {k : Nat} (F : Fun K "_law_gap" "_law_gap" s_l_gap f fd)
    (G1 : FnOk P w K mg base CX0 k f1 fd1 ["_law_found"] spRows) (kp1 : PySem.W.keepIn K (.ref f1) = true) (b1 : Binds K fd1 ["_law_found"] []) (g1 : mg "_law_rows" = some (.ref f1))
    (G2 : FnOk P w K mg base CX0 k f2 fd2 ["_law_top", "_law_bottom"] spLowest) (kp2 : PySem.W.keepIn K (.ref f2) = true) (b2 : Binds K fd2 ["_law_top", "_law_bottom"] []) (g2 : mg "_law_lowest" = some (.ref f2))
    (m1 : mg "range" = none) (m2 : mg "len" = none) : FnOk P w K mg base CX0 (k + 1) f fd ["_law_found"] spLGap := by
  refine F.ok sc_l_gap (fun vs H Q E h => ?_) (fun cdv A outer s H vs Q E hr h => ?_)
  · obtain ⟨D, B, ps, rfl, _⟩ := h; rfl
  · obtain ⟨D, B, ps, rfl, M, q⟩ := h
    have hu2 := hu_of hr
    refine ⟨_, pss_cons (ps_par (i := 1) (j := 2) (by rfl) sc_l_gap.nd rfl rfl (by decide) rfl rfl (pa_cons (pe_call G1 hr (by rfl) g1 kp1 b1 .nil pass0 (pa_cons (pv 0) pa_nil)) (pa_cons (pe_tup (pa_cons pe_int (pa_cons pe_int pa_nil))) pa_nil)) (by rfl))
      (pss_cons (ps_set (i := 3) sc_l_gap.nd rfl (.inl rfl) (pe_op op_sub (pe_callB call_len_seq (by rfl) m2 PySem.boot_len (pa_cons (pv 1) pa_nil)) pe_int))
      (pss_cons (ps_lock (ps_for PassesOwn.never rfl (pi_keys (pe_ix ix_list (pv 1) (pv 3) (fun _ _ => rfl))) (pg_name (i := 4) sc_l_gap.nd rfl (.inl rfl))
        (pss_cons (ps_set (i := 5) sc_l_gap.nd rfl (.inl rfl) (pe_tup (pa_cons pe_int (pa_cons pe_int pa_nil))))
        (pss_cons (ps_for PassesOwn.never rfl (pi_range1 (by rfl) m1 (pa_cons (pv 3) pa_nil)) (pg_name (i := 6) sc_l_gap.nd rfl (.inl rfl))
          (pss_one (ps_if (pt_cmp (pc_din hu2 (pv 4) (pe_ix ix_list (pv 1) (pv 6) (fun _ _ => rfl))))
            (pss_cons (ps_set (i := 7) sc_l_gap.nd rfl (.inl rfl) (pe_tup (pa_cons (pe_op op_sub (pe_dget hu2 (pe_ix ix_list (pv 1) (pv 3) (fun _ _ => rfl)) (pv 4) (fun _ _ => rfl)) (pe_dget hu2 (pe_ix ix_list (pv 1) (pv 6) (fun _ _ => rfl)) (pv 4) (fun _ _ => rfl)))
              (pa_cons (pe_op op_sub (pv 3) (pv 6)) pa_nil))))
            (pss_one (ps_if (pt_cmpR op_lt (pe_op op_mul (pe_ix ix_tup (pv 7) pe_int (fun _ _ => rfl)) (pe_ix ix_tup (pv 5) pe_int (fun _ _ => rfl))) (pe_op op_mul (pe_ix ix_tup (pv 5) pe_int (fun _ _ => rfl)) (pe_ix ix_tup (pv 7) pe_int (fun _ _ => rfl))) (nomark _))
              (pss_one (ps_set (i := 5) sc_l_gap.nd rfl (by first | exact .inl rfl | exact .inr rfl) (pv 7))) pss_nil))) pss_nil)))
        (pss_one (ps_if (pt_cmpR op_gt (pe_op op_mul (pe_ix ix_tup (pv 5) pe_int (fun _ _ => rfl)) (pe_ix ix_tup (pv 2) pe_int (fun _ _ => rfl))) (pe_op op_mul (pe_ix ix_tup (pv 2) pe_int (fun _ _ => rfl)) (pe_ix ix_tup (pv 5) pe_int (fun _ _ => rfl))) (nomark _))
          (pss_one (ps_set (i := 2) sc_l_gap.nd rfl (by first | exact .inl rfl | exact .inr rfl) (pv 5))) pss_nil))))))
      (pss_one (ps_ret (pe_call G2 hr (by rfl) g2 kp2 b2 .nil pass0 (pa_cons (pe_ix ix_tup (pv 2) pe_int (fun _ _ => rfl)) (pa_cons (pe_ix ix_tup (pv 2) pe_int (fun _ _ => rfl)) pa_nil))))))), ?_⟩
    have big : 400000 ≤ sizeLine := by rw [sizeLine_eq]; decide
    have lps := nd_few M.nd M.lt
    have hcl : ∀ u, u ∈ ps.map (·.1) → ∀ y c, (y, c) ∈ edM B u → y ∈ ps.map (·.1) := fun u hu y c h => by
      obtain ⟨x, hx, rfl⟩ := List.mem_map.mp hu
      exact M.cl x hx y c h
    have hin : ∀ {n v g}, Wk (edM B) 0 n g v → v ∈ ps.map (·.1) := fun w => wk_in M.zero hcl w
    refine ⟨.ref D, rfl, D, B, ps, rfl, M, fun H1 R rs Ls e1 hR1 hP1 hl hok => ?_⟩
    have lrs : rs.length = Ls.length := Paired.length hP1
    have W := tab_best hl hok
    generalize hN : ps.length = N at hl W lps
    refine ⟨by show 2 ≤ sizeLine; omega, fun g0 ng0 => ⟨_, _, rfl, ?_⟩⟩
    have e2 := e1.trans (same_new (o := .tup [V.int 0, .int 1]) ng0)
    have hR2 := same_new (o := .tup [V.int 0, .int 1]) ng0 _ _ hR1
    have hP2 : Paired (DctAt (upd H1 g0 (.tup [V.int 0, .int 1]))) rs Ls := paired_imp hP1 fun a L h => same_new (o := .tup [V.int 0, .int 1]) ng0 _ _ h
    have hg2 : FrAt (upd H1 g0 (.tup [V.int 0, .int 1])) g0 (0, 1) := upd_same
    generalize upd H1 g0 (.tup [V.int 0, .int 1]) = H2 at e2 hR2 hP2 hg2 ⊢
    clear hP1 hR1 e1 ng0 H1
    have lrsV : (rs.map V.ref).length = N + 1 := by rw [List.length_map, lrs, hl]
    refine ⟨.ref R, rfl, R, _, rfl, .inl (.of hR2), _, _, rfl, rfl, ?_⟩
    have eN : (((rs.map V.ref).length : Nat) : Int) - 1 = (N : Nat) := by rw [lrsV]; omega
    dsimp only
    rw [eN]
    obtain ⟨LN, hLN⟩ : ∃ L, Ls[N]? = some L := ⟨_, List.getElem?_eq_getElem (by omega)⟩
    obtain ⟨rN, hrsN⟩ : ∃ a, rs[N]? = some a := ⟨_, List.getElem?_eq_getElem (by omega)⟩
    have ON := hok N LN hLN
    have tN := tab_at hLN
    have hrow : ∀ {H' : Hp} {t a L}, rs[t]? = some a → Ls[t]? = some L → H2 a = some (.dK (snD L)) := fun ha hL => by
      obtain ⟨L', h1, h2⟩ := paired_get hP2 ha
      rw [hL] at h1
      rw [Option.some.inj h1]; exact h2
    have hrN2 := hrow (H' := H2) hrsN hLN
    have nRr : R ≠ rN := fun z => by rw [z] at hR2; have := hrN2.symm.trans hR2; exact nomatch this
    refine ⟨rN, _, hrN2, trivial, fun od => ?_⟩
    have k3 : ∀ b o, b ≠ rN → H2 b = some o → (upd H2 rN (.frz od (.dK (snD LN)))) b = some o := fun b o h z => by rw [upd_ne h]; exact z
    have hrN3 : (upd H2 rN (.frz od (.dK (snD LN)))) rN = some (.frz od (.dK (snD LN))) := upd_same
    have hg3 : FrAt (upd H2 rN (.frz od (.dK (snD LN)))) g0 (0, 1) := k3 _ _ (fun z => by have := hg2; unfold FrAt at this; rw [z, hrN2] at this; exact nomatch this) hg2
    generalize upd H2 rN (.frz od (.dK (snD LN))) = H3 at k3 hrN3 hg3 ⊢
    have atR : ∀ {t a}, rs[t]? = some a → atI (rs.map V.ref) ((t : Nat) : Int) = some (V.ref a) := fun h => atI_nat (by rw [List.getElem?_map, h]; rfl)
    have getT : ∀ {H'}, (∀ b o, b ≠ rN → H2 b = some o → H' b = some o) → H' rN = some (.frz od (.dK (snD LN))) → ∀ {t a L}, rs[t]? = some a → Ls[t]? = some L → ∀ m : Nat, DGet H' a (.int (m : Nat)) ((snV L m).map fun g => V.int (g : Nat)) := fun k h t a L ha hL m => by
      rw [← snD_at]
      have h2 := hrow (H' := H2) ha hL
      refine .inl ⟨snD L, Sum.inl ((m : Nat) : Int), ?_, rfl, rfl⟩
      by_cases c : a = rN
      · rw [c] at h2 ⊢
        have e := hrN2.symm.trans h2
        have e : snD LN = snD L := by injection (Option.some.inj e)
        rw [← e]; exact .inr ⟨od, h⟩
      · exact .inl (k _ _ c h2)
    have lL : (snD LN).length = LN.length := List.length_map _
    refine ⟨.ref R, rfl, .int (N : Nat), rfl, R, _, (N : Nat), .ref rN, rfl, rfl, .of (k3 _ _ nRr hR2), atR hrsN, rN, od, rfl, .inl ⟨snD LN, hrN3, ?_⟩⟩
    refine for_it walk_keys (fun j σ H' => ∃ v4 v5 v6 v7 gt gq, σ = [some (.ref D), some (.ref R), some (.ref gt), some (.int (N : Nat)), v4, v5, v6, v7] ∧ (∀ b o, b ≠ rN → H2 b = some o → H' b = some o) ∧ H' rN = some (.frz od (.dK (snD LN))) ∧ FrAt H' gt gq ∧ gq.1 ≤ 256 ∧ gq.2 ≤ 256 ∧ Great (tabD Ls) N ((LN.take j).map (·.1)) gq)
      ⟨_, _, _, _, g0, (0, 1), rfl, k3, hrN3, hg3, by decide, by decide, great_start⟩ (fun j σ H' _ h => ?_) (fun j x σ H' H'' hj h hY => ?_) (fun σ H7 h => ?_)
    · obtain ⟨_, _, _, _, _, _, _, _, h, _⟩ := h
      exact h
    · obtain ⟨v4, v5, v6, v7, gt, gq, rfl, k4, hrN4, hg4, b1', b2', GG⟩ := h
      obtain ⟨rfl, kk, vv, hk, rfl⟩ := hY
      unfold snD at hk
      rw [List.getElem?_map] at hk
      obtain ⟨⟨m, gm⟩, hmj, eg⟩ := Option.map_eq_some_iff.mp hk
      obtain ⟨rfl, rfl⟩ : (Sum.inl (m : Int) : L2.Key) = kk ∧ V.int (gm : Nat) = vv := ⟨congrArg Prod.fst eg, congrArg Prod.snd eg⟩
      have hmL := List.mem_of_getElem? hmj
      have hmN : snV LN m = some gm := snV_mem ON.nd hmL
      have tmN : tabD Ls N m = some ((gm : Nat) : Int) := by rw [tN, hmN]; rfl
      have gmb := (wk_gain (ON.is _ hmL)).2
      have gmb : ((gm : Nat) : Int) ≤ (N : Int) := gmb
      have stp : (LN.take (j + 1)).map (·.1) = (LN.take j).map (·.1) ++ [m] := by rw [List.take_add_one, hmj, List.map_append]; rfl
      rw [stp]
      refine ⟨by show 2 ≤ sizeLine; omega, fun l0 nl0 => ?_⟩
      have e5 := same_new (o := .tup [V.int 1, .int 1]) nl0
      have hl5 : FrAt (upd H'' l0 (.tup [V.int 1, .int 1])) l0 (1, 1) := upd_same
      have hg5 : FrAt (upd H'' l0 (.tup [V.int 1, .int 1])) gt gq := e5 _ _ hg4
      have k5 : ∀ b o, b ≠ rN → H2 b = some o → (upd H'' l0 (.tup [V.int 1, .int 1])) b = some o := fun b o h z => e5 _ _ (k4 _ _ h z)
      have hrN5 := e5 _ _ hrN4
      generalize upd H'' l0 (.tup [V.int 1, .int 1]) = H5 at hl5 hg5 k5 hrN5 ⊢
      clear e5 hg4 hrN4 k4 nl0
      refine ⟨.int (N : Nat), rfl, (N : Nat), rfl, by omega, by omega, ?_⟩
      refine for_range (lo := 0) (n := ((N : Nat) : Int).toNat) (fun t σ H' => ∃ v6 v7 lt lp, σ = [some (.ref D), some (.ref R), some (.ref gt), some (.int (N : Nat)), some (.int (m : Nat)), some (.ref lt), v6, v7] ∧ (∀ b o, b ≠ rN → H2 b = some o → H' b = some o) ∧ H' rN = some (.frz od (.dK (snD LN))) ∧ FrAt H' gt gq ∧ FrAt H' lt lp ∧ -256 ≤ lp.1 ∧ lp.1 ≤ 256 ∧ lp.2 ≤ 256 ∧ Least (tabD Ls) N m (gm : Nat) t lp)
        ⟨_, _, l0, (1, 1), rfl, k5, hrN5, hg5, hl5, by decide, by decide, by decide, least_start⟩ ?_ ?_
      · rintro t σ H6 ht ⟨v6, v7, lt, lp, rfl, k6, hrN6, hg6, hl6, c1, c2, c3, LL⟩
        rw [Int.toNat_natCast] at ht
        obtain ⟨Lt, hLt⟩ : ∃ L, Ls[t]? = some L := ⟨_, List.getElem?_eq_getElem (by omega)⟩
        obtain ⟨a, hat⟩ : ∃ a, rs[t]? = some a := ⟨_, List.getElem?_eq_getElem (by omega)⟩
        have ez : V.int (0 + (t : Nat)) = .int ((t : Nat) : Int) := congrArg V.int (Int.zero_add _)
        have hget := getT k6 hrN6 hat hLt m
        have hgetN := getT k6 hrN6 hrsN hLN m
        rw [hmN] at hgetN
        have tt := tab_at hLt m
        refine ⟨.int (m : Nat), rfl, .ref R, rfl, .int (0 + (t : Nat)), rfl, R, _, (t : Nat), .ref a, rfl, ez, .of (k6 _ _ nRr hR2), atR hat, a, _, rfl, hget, _, rfl, ?_⟩
        cases z : snV Lt m with
        | none =>
          rw [z] at tt
          exact iteF ⟨_, _, lt, lp, rfl, k6, hrN6, hg6, hl6, c1, c2, c3, LL.skip tt⟩
        | some g =>
          rw [z] at tt hget
          have gb := wk_gain ((hok t Lt hLt).is _ (snV_some z))
          have gb : 0 ≤ ((g : Nat) : Int) ∧ ((g : Nat) : Int) ≤ (t : Int) := gb
          refine iteT ⟨.ref R, rfl, .int (N : Nat), rfl, R, _, (N : Nat), .ref rN, rfl, rfl, .of (k6 _ _ nRr hR2), atR hrsN, .int (m : Nat), rfl, rN, .int (gm : Nat), rfl, hgetN, .ref R, rfl, .int (0 + (t : Nat)), rfl, R, _, (t : Nat), .ref a, rfl, ez, .of (k6 _ _ nRr hR2), atR hat, .int (m : Nat), rfl, a, .int (g : Nat), rfl, hget, _, _, rfl, rfl,
            .int (N : Nat), rfl, .int (0 + (t : Nat)), rfl, _, _, rfl, rfl, by show 2 ≤ sizeLine; omega, fun o1 no1 => ?_⟩
          rw [Int.zero_add]
          have e7 := same_new (o := .tup [V.int (((gm : Nat) : Int) - (g : Nat)), .int (((N : Nat) : Int) - (t : Nat))]) no1
          have ho7 : FrAt (upd H6 o1 (.tup [V.int (((gm : Nat) : Int) - (g : Nat)), .int (((N : Nat) : Int) - (t : Nat))])) o1 (((gm : Nat) : Int) - (g : Nat), ((N : Nat) : Int) - (t : Nat)) := upd_same
          have hg7 : FrAt (upd H6 o1 (.tup [V.int (((gm : Nat) : Int) - (g : Nat)), .int (((N : Nat) : Int) - (t : Nat))])) gt gq := e7 _ _ hg6
          have hl7 : FrAt (upd H6 o1 (.tup [V.int (((gm : Nat) : Int) - (g : Nat)), .int (((N : Nat) : Int) - (t : Nat))])) lt lp := e7 _ _ hl6
          have k7 : ∀ b o, b ≠ rN → H2 b = some o → (upd H6 o1 (.tup [V.int (((gm : Nat) : Int) - (g : Nat)), .int (((N : Nat) : Int) - (t : Nat))])) b = some o := fun b o h z => e7 _ _ (k6 _ _ h z)
          have hrN7 := e7 _ _ hrN6
          generalize upd H6 o1 (.tup [V.int (((gm : Nat) : Int) - (g : Nat)), .int (((N : Nat) : Int) - (t : Nat))]) = H7 at ho7 hg7 hl7 k7 hrN7 ⊢
          have lp0 := LL.pos
          refine ⟨.ref o1, rfl, o1, _, 0, .int (((gm : Nat) : Int) - (g : Nat)), rfl, rfl, .of ho7, atI0, .ref lt, rfl, lt, _, 1, .int lp.2, rfl, rfl, .of hl7, atI1, _, _, rfl, rfl, .inl ⟨by omega, by omega⟩,
            .ref lt, rfl, lt, _, 0, .int lp.1, rfl, rfl, .of hl7, atI0, .ref o1, rfl, o1, _, 1, .int (((N : Nat) : Int) - (t : Nat)), rfl, rfl, .of ho7, atI1, _, _, rfl, rfl, .inl ⟨by omega, by omega⟩, _, _, rfl, rfl, _, rfl, ite2 (fun c => ?_) (fun c => ?_)⟩
          · have c := of_decide_eq_true c
            exact ⟨.ref o1, rfl, _, _, o1, _, rfl, k7, hrN7, hg7, ho7, by show (-256 : Int) ≤ ((gm : Nat) : Int) - (g : Nat); omega, by show ((gm : Nat) : Int) - (g : Nat) ≤ 256; omega, by show ((N : Nat) : Int) - (t : Nat) ≤ 256; omega, LL.take ht tt c⟩
          · have c : ¬ ((((gm : Nat) : Int) - (g : Nat)) * lp.2 < lp.1 * (((N : Nat) : Int) - (t : Nat))) := fun z => c (decide_eq_true z)
            exact ⟨_, _, lt, lp, rfl, k7, hrN7, hg7, hl7, c1, c2, c3, LL.keep tt (Int.not_lt.mp c)⟩
      · rintro σ H6 ⟨v6, v7, lt, lp, rfl, k6, hrN6, hg6, hl6, c1, c2, c3, LL⟩
        rw [Int.toNat_natCast] at LL
        have g1 := GG.nn
        have g2 := GG.pos
        refine ⟨.ref lt, rfl, lt, _, 0, .int lp.1, rfl, rfl, .of hl6, atI0, .ref gt, rfl, gt, _, 1, .int gq.2, rfl, rfl, .of hg6, atI1, _, _, rfl, rfl, .inl ⟨by omega, by omega⟩,
            .ref gt, rfl, gt, _, 0, .int gq.1, rfl, rfl, .of hg6, atI0, .ref lt, rfl, lt, _, 1, .int lp.2, rfl, rfl, .of hl6, atI1, _, _, rfl, rfl, .inl ⟨by omega, by omega⟩, _, _, rfl, rfl, _, rfl, ite2 (fun c => ?_) (fun c => ?_)⟩
        · have c := of_decide_eq_true c
          exact ⟨.ref lt, rfl, _, _, _, _, lt, lp, rfl, k6, hrN6, hl6, c2, c3, GG.take tmN LL c⟩
        · have c : ¬ (lp.1 * gq.2 > gq.1 * lp.2) := fun z => c (decide_eq_true z)
          exact ⟨_, _, _, _, gt, gq, rfl, k6, hrN6, hg6, b1', b2', GG.keep tmN LL (Int.not_lt.mp c)⟩
    · obtain ⟨v4, v5, v6, v7, gt, gq, rfl, k4, hrN4, hg4, b1', b2', GG⟩ := h
      rw [lL, List.take_length] at GG
      refine ⟨hrN4, ?_⟩
      have e8 : Same H2 (upd H7 rN (.dK (snD LN))) := fun b o z => by
        by_cases c : b = rN
        · rw [c] at z ⊢; rw [upd_same, ← z, hrN2]
        · rw [upd_ne c]; exact k4 _ _ c z
      have hg8 : FrAt (upd H7 rN (.dK (snD LN))) gt gq := by
        show _ = _
        rw [upd_ne (fun z => by have := hg4; unfold FrAt at this; rw [z, hrN4] at this; exact nomatch this)]; exact hg4
      generalize upd H7 rN (.dK (snD LN)) = H8 at e8 hg8 ⊢
      have g1 := GG.nn
      have g2 := GG.pos
      obtain ⟨p, q2⟩ := gq
      obtain ⟨p, rfl⟩ : ∃ n : Nat, p = n := ⟨p.toNat, by have : 0 ≤ p := g1; omega⟩
      obtain ⟨q2, rfl⟩ : ∃ n : Nat, q2 = n := ⟨q2.toNat, by have : 0 < q2 := g2; omega⟩
      have q0 : 0 < q2 := by have : (0 : Int) < (q2 : Nat) := g2; omega
      have p256 : ((p : Nat) : Int) ≤ 256 := b1'
      have q256 : ((q2 : Nat) : Int) ≤ 256 := b2'
      refine ⟨.ref gt, rfl, gt, _, 1, .int (q2 : Nat), rfl, rfl, .of hg8, atI1, .ref gt, rfl, gt, _, 0, .int (p : Nat), rfl, rfl, .of hg8, atI0, q2, p, rfl, q0, by omega, by omega, fun H9 t e9 ht => ?_⟩
      refine q H9 t (((q2 / Nat.gcd q2 p : Nat) : Int), ((p / Nat.gcd q2 p : Nat) : Int)) ((e2.trans e8).trans e9) ht ⟨Int.natCast_nonneg _, Int.le_trans (Int.ofNat_le.mpr (Nat.div_le_self _ _)) q256, Int.natCast_nonneg _, Int.le_trans (Int.ofNat_le.mpr (Nat.div_le_self _ _)) p256⟩ fun x hi cs hB hC => ?_
      have MM := meanIs_of hB hC M.zero hcl
      have lk : (ps.map (·.1)).length = N := by rw [List.length_map, hN]
      have b0 : 0 < hi.2 := hC.low.pos
      have GG' : Great (tabD Ls) (ps.map (·.1)).length (LN.map (·.1)) ((p : Nat), (q2 : Nat)) := by rw [lk]; exact GG
      have W' : BestWk (edM B) 0 (ps.map (·.1)).length (tabD Ls) := by rw [lk]; exact W
      have key := GG'.mean MM W' b0 fun v g h => by
        rw [lk, tN] at h
        obtain ⟨n, hn, _⟩ := Option.map_eq_some_iff.mp h
        exact List.mem_map.mpr ⟨_, snV_some hn, rfl⟩
      have key : ((p : Nat) : Int) * hi.2 = hi.1 * (q2 : Nat) := key
      have gpos : 0 < Nat.gcd q2 p := Nat.gcd_pos_of_pos_left _ q0
      have dq := Nat.div_mul_cancel (Nat.gcd_dvd_left q2 p)
      have dp := Nat.div_mul_cancel (Nat.gcd_dvd_right q2 p)
      have qpos : 0 < q2 / Nat.gcd q2 p := Nat.div_pos (Nat.gcd_le_left _ q0) gpos
      have lowF : LowF (((p / Nat.gcd q2 p : Nat) : Int), ((q2 / Nat.gcd q2 p : Nat) : Int)) := by
        refine ⟨Int.ofNat_lt.mpr qpos, Int.natCast_nonneg _, ?_⟩
        show Nat.gcd (((p / Nat.gcd q2 p : Nat) : Int).natAbs) (((q2 / Nat.gcd q2 p : Nat) : Int).natAbs) = 1
        rw [Int.natAbs_natCast, Int.natAbs_natCast, Nat.gcd_comm]
        rw [Nat.gcd_div (Nat.gcd_dvd_left q2 p) (Nat.gcd_dvd_right q2 p)]
        exact Nat.div_self gpos
      have cross : ((p / Nat.gcd q2 p : Nat) : Int) * hi.2 = hi.1 * ((q2 / Nat.gcd q2 p : Nat) : Int) := by
        have hg : (0 : Int) < (Nat.gcd q2 p : Nat) := by omega
        refine pos_cancel hg ?_
        have e1 : ((p : Nat) : Int) = ((p / Nat.gcd q2 p : Nat) : Int) * ((Nat.gcd q2 p : Nat) : Int) := by rw [← Int.natCast_mul, dp]
        have e2 : ((q2 : Nat) : Int) = ((q2 / Nat.gcd q2 p : Nat) : Int) * ((Nat.gcd q2 p : Nat) : Int) := by rw [← Int.natCast_mul, dq]
        rw [e1, e2] at key
        calc ((Nat.gcd q2 p : Nat) : Int) * (((p / Nat.gcd q2 p : Nat) : Int) * hi.2) = ((p / Nat.gcd q2 p : Nat) : Int) * ((Nat.gcd q2 p : Nat) : Int) * hi.2 := by ac_rfl
          _ = hi.1 * (((q2 / Nat.gcd q2 p : Nat) : Int) * ((Nat.gcd q2 p : Nat) : Int)) := key
          _ = ((Nat.gcd q2 p : Nat) : Int) * (hi.1 * ((q2 / Nat.gcd q2 p : Nat) : Int)) := by ac_rfl
      have := low_eqF lowF hC.low (Int.le_of_eq cross) (Int.le_of_eq cross.symm)
      rw [← this]
end
end Sg
set_option Elab.async false
set_option linter.all false
set_option maxRecDepth 100000
set_option maxHeartbeats 4000000
namespace Sg
open PySem PySem.Spec PyProof.Rows L2 StX
section
variable {P : Program} {w : World} {K : PySem.W.Frag} {mg : Str → Option Value} {base : Heap}
/-- what best tells, and what it is -/
structure BestAt (H : Hp) (t : Addr) (ws : List (List Int)) (wt : List Int) (hi : Int × Int) (cs : List (Option Nat)) : Prop where
  pair : ∃ h l, H t = some (.tup [.ref h, .ref l]) ∧ FrAt H h hi ∧ H l = some (.tup ((cs.map chI).map V.int))
  best : BestC ws wt hi cs
  len : cs.length ≤ 32768
theorem BestAt.keep {H H' : Hp} (e : Same H H') {t : Addr} {ws : List (List Int)} {wt : List Int} {hi : Int × Int} {cs : List (Option Nat)} (h : BestAt H t ws wt hi cs) : BestAt H' t ws wt hi cs := by
  obtain ⟨⟨x, l, h1, h2, h3⟩, h4, h5⟩ := h
  exact ⟨⟨x, l, e _ _ h1, e _ _ h2, e _ _ h3⟩, h4, h5⟩
def spBestC (K : PySem.W.Frag) (C : Addr) : Sp := fun vs H Q _ => ∃ (a b : Addr) (ws : List (List Int)) (R : Nat) (wt : List Int), vs = [.ref a, .ref b] ∧ LineAt K C H a ws ∧ Reach ws R ∧ NearR ws.length R ∧ SqT K H b (wt.map V.int) ∧ GoodWt ws.length wt ∧
  ∀ H' t hi cs, Same H H' → BestAt H' t ws wt hi cs → Q (.ref t) H'
theorem best_c {f C : Addr} {fd : FuncData} {k : Nat} (G : FnOk P w K mg base CX0 k f fd ["line", "worths"] (spBest K C)) : FnOk P w K mg base CX0 k f fd ["line", "worths"] (spBestC K C) := by
  refine G.imp fun vs H Q E h => ?_
  obtain ⟨a, b, ws, R, wt, rfl, hL, hR, hN, hb, hw, q⟩ := h
  have R6 : R ≤ 60 := by rcases hN with ⟨_, h⟩ | ⟨_, h⟩ <;> omega
  refine ⟨a, b, ws, R, wt, rfl, hL, hR, hN, hb, hw, fun H' t h l hi ls Ls e ht hh hl O hB => ?_⟩
  obtain ⟨cs, rfl, hC, hlen⟩ := bestC_of O hR.rea R6 hB
  exact q H' t hi cs e ⟨⟨h, l, ht, hh, hl⟩, hC, hlen⟩
end
end Sg
set_option Elab.async false
set_option linter.all false
set_option maxRecDepth 100000
set_option maxHeartbeats 4000000
namespace Sg
open PySem PySem.Spec PyProof.Rows L2 StX
theorem good1 : GoodWt 1 [1] := ⟨rfl, fun x hx => by rw [List.mem_singleton.mp hx]; exact ⟨by decide, by decide⟩, by decide⟩
theorem reach_le {x : List Int} {R : Nat} (h : Reach [x] R) (hb : ∀ b ∈ barsN x x, b ≤ 8) : R ≤ 8 := by
  have ht := top_is (allB [x] [x])
  have e := h.top _ ht
  rcases ht.eq with z | z
  · rw [e] at z; omega
  · rw [e] at z
    unfold allB at z
    obtain ⟨y, hy, z⟩ := List.mem_flatMap.mp z
    obtain rfl := List.mem_singleton.mp hy
    unfold rowB at z
    obtain ⟨y2, hy2, z⟩ := List.mem_flatMap.mp z
    obtain rfl := List.mem_singleton.mp hy2
    obtain ⟨b, hb', e2⟩ := List.mem_map.mp z
    have := hb b hb'
    omega
section
variable {P : Program} {w : World} {K : PySem.W.Frag} {mg : Str → Option Value} {base : Heap}
/-! ### gap -/
def spGapC (K : PySem.W.Frag) : Sp := fun vs H Q _ => ∃ (a : Addr) (x : List Int), vs = [.ref a] ∧ SqT K H a (x.map V.int) ∧ IsWork x ∧ (∀ b ∈ barsN x x, b ≤ 8) ∧
  ∀ H' t hi cs, Same H H' → FrAt H' t (hi.2, hi.1) → BestC [x] [1] hi cs → cs.length ≤ 32768 → Q (.ref t) H'
theorem ok_gapC {f f1 C : Addr} {fd fd1 : FuncData} {k : Nat} (F : Fun K "gap" "gap" s_gap f fd) (M : Meths P w K mg base k C)
    (G1 : FnOk P w K mg base CX0 (k + 2) f1 fd1 ["line", "worths"] (spBestC K C)) (kp1 : PySem.W.keepIn K (.ref f1) = true) (b1 : Binds K fd1 ["line", "worths"] []) (g1 : mg "best" = some (.ref f1)) :
    FnOk P w K mg base CX0 (k + 3) f fd ["work"] (spGapC K) := by
  refine F.ok sc_gap (fun vs H Q E h => ?_) (fun cdv A outer s H vs Q E hr h => ?_)
  · obtain ⟨a, x, rfl, _⟩ := h; rfl
  · obtain ⟨a, x, rfl, ha, hw, hb, q⟩ := h
    have hgl : GoodL [x] := ⟨Nat.le_refl 1, (by show 1 ≤ 3; decide), fun y hy => by rw [List.mem_singleton.mp hy]; exact hw⟩
    refine ⟨_, pss_cons (ps_asg (pe_call G1 hr (by rfl) g1 kp1 b1 .nil pass0 (pa_cons (M.pNew (K := K) rfl hr (by rfl) (pa_cons (pv 0) pa_nil)) (pa_cons (pe_tup (pa_cons pe_int pa_nil)) pa_nil)))
        (pg_tup rfl (pgs_cons (pg_tup rfl (pgs_cons (pg_name (i := 1) sc_gap.nd rfl (.inl rfl)) (pgs_cons (pg_name (i := 2) sc_gap.nd rfl (.inl rfl)) pgs_nil))) (pgs_cons (pg_name (i := 3) sc_gap.nd rfl (.inl rfl)) pgs_nil))))
      (pss_one (ps_ret (pe_tup (pa_cons (pv 2) (pa_cons (pv 1) pa_nil))))), ?_⟩
    have big : 1000 ≤ sizeLine := by rw [sizeLine_eq]; decide
    obtain ⟨R, hR⟩ := exists_reach [x]
    have R8 := reach_le hR hb
    refine ⟨.ref a, rfl, [x], .on (Tp.ofInts (ns := x) ha) .no, hgl, fun H1 la e1 _ hL => ?_⟩
    refine ⟨by show 1 ≤ sizeLine; omega, fun b nb => ?_⟩
    have e2 := same_new (o := .tup [V.int 1]) nb
    have hb2 : (upd H1 b (.tup [V.int 1])) b = some (.tup (([1] : List Int).map V.int)) := upd_same
    have hL2 := hL.stay (.of e2)
    generalize upd H1 b (.tup [V.int 1]) = H2 at e2 hb2 hL2 ⊢
    refine ⟨la, b, [x], R, [1], rfl, hL2, hR, .inl ⟨rfl, R8⟩, .of hb2, good1, fun H3 t hi cs e3 hB => ?_⟩
    obtain ⟨h, l, ht, hh, hl⟩ := hB.pair
    refine ⟨t, _, rfl, .of ht, rfl, _, _, rfl, h, _, rfl, .of hh, rfl, _, _, rfl, _, _, rfl, rfl, _, _, rfl, rfl, ?_⟩
    refine ⟨.int hi.2, rfl, .int hi.1, rfl, by show 2 ≤ sizeLine; omega, fun z nz => ?_⟩
    have ez := same_new (o := .tup [V.int hi.2, V.int hi.1]) nz
    exact q _ z hi cs ((e1.trans e2).trans (e3.trans ez)) upd_same hB.best hB.len
end
end Sg
set_option Elab.async false
set_option linter.all false
set_option maxRecDepth 100000
set_option maxHeartbeats 4000000
namespace Sg
open PySem PySem.Spec PyProof.Rows L2 StX
theorem near_bars {nn its : List Int} {far : Int} (h : Blk nn far its) (u : Unlike nn) (f0 : 0 ≤ far) (f8 : far ≤ 8) : ∀ d ∈ barsN its its, d ≤ 8 := by
  intro d hd
  obtain ⟨j, x, h1, h2, h3⟩ := clashB_iff.mp (List.mem_filter.mp hd).2
  have := h.near u f0 h2 h1 h3
  omega
theorem bars_pos {x z : List Int} : ∀ d ∈ barsN x z, 1 ≤ d := fun d hd => by
  unfold barsN at hd
  rw [List.mem_filter, List.mem_range'] at hd
  obtain ⟨⟨e, he, rfl⟩, _⟩ := hd
  omega
/-- what _law_between tells is what _law_masks wants -/
theorem span_ok {its : List Int} {ms : List Int} (h8 : ∀ d ∈ barsN its its, d ≤ 8) (hp : ms.Pairwise (· < ·)) (hm : ∀ k, k ∈ ms ↔ ∃ d ∈ barsN its its, k = ((d : Nat) : Int)) : (∀ z ∈ ms, 1 ≤ z ∧ z ≤ 8) ∧ maskB ms < 256 ∧ IsB (maskB ms) (barsN its its) := by
  have h1 : ∀ b ∈ barsN its its, 1 ≤ b ∧ b ≤ 8 := fun b hb => ⟨bars_pos b hb, h8 b hb⟩
  refine ⟨fun z hz => ?_, (mask_is hp hm h1).2, (mask_is hp hm h1).1⟩
  obtain ⟨d, hd, rfl⟩ := (hm z).mp hz
  have := h1 d hd; omega
section
variable {P : Program} {w : World} {K : PySem.W.Frag} {mg : Str → Option Value} {base : Heap}
/-! ### _law_single -/
def spSingle : Sp := fun vs H Q _ => ∃ (p : Addr), vs = [.ref p] ∧ PenAt H p ∧ ∀ H' t ns, PenAt H' p → But p H H' → H t = none → H' t = some (.tup (ns.map V.int)) → IsWork ns → (∀ b ∈ barsN ns ns, b ≤ 8) → Q (.ref t) H'
theorem ok_single {f f4 f6 f7 f8 f9 : Addr} {fd fd4 fd6 fd7 fd8 fd9 : FuncData} {k : Nat} (F : Fun K "_law_single" "_law_single" s_l_single f fd)
    (G4 : FnOk P w K mg base CX0 k f4 fd4 ["_law_pen_here", "_law_some"] spPick) (kp4 : PySem.W.keepIn K (.ref f4) = true) (b4 : Binds K fd4 ["_law_pen_here", "_law_some"] []) (g4 : mg "_law_pick" = some (.ref f4))
    (G6 : FnOk P w K mg base CX0 k f6 fd6 ["_law_pen_here"] spNames) (kp6 : PySem.W.keepIn K (.ref f6) = true) (b6 : Binds K fd6 ["_law_pen_here"] []) (g6 : mg "_law_names" = some (.ref f6))
    (G7 : FnOk P w K mg base CX0 k f7 fd7 ["_law_pen_here", "_law_names_here", "_law_far", "_law_blocks"] spLWork) (kp7 : PySem.W.keepIn K (.ref f7) = true) (b7 : Binds K fd7 ["_law_pen_here", "_law_names_here", "_law_far", "_law_blocks"] []) (g7 : mg "_law_work" = some (.ref f7))
    (G8 : FnOk P w K mg base CX0 k f8 fd8 ["_law_one", "_law_other"] (spBetween K)) (kp8 : PySem.W.keepIn K (.ref f8) = true) (b8 : Binds K fd8 ["_law_one", "_law_other"] []) (g8 : mg "_law_between" = some (.ref f8))
    (G9 : FnOk P w K mg base CX0 k f9 fd9 ["_law_spans"] spMasks) (kp9 : PySem.W.keepIn K (.ref f9) = true) (b9 : Binds K fd9 ["_law_spans"] []) (g9 : mg "_law_masks" = some (.ref f9))
    (m1 : mg "len" = none) (m2 : mg "range" = none) : FnOk P w K mg base CX0 (k + 1) f fd ["_law_pen_here"] spSingle := by
  refine F.ok sc_l_single (fun vs H Q E h => ?_) (fun cdv A outer s H vs Q E hr h => ?_)
  · obtain ⟨p, rfl, _⟩ := h; rfl
  · obtain ⟨p, rfl, hp, q⟩ := h
    refine ⟨_, pss_cons (ps_for PassesOwn.never rfl (pi_range1 (by rfl) m2 (pa_cons pe_int pa_nil)) (pg_name (i := 1) sc_l_single.nd rfl (.inl rfl))
        (pss_cons (ps_set (i := 2) sc_l_single.nd rfl (.inl rfl) (pe_call G4 hr (by rfl) g4 kp4 b4 .nil pass0 (pa_cons (pv 0) (pa_cons (pe_lst (pa_cons pe_int (pa_cons pe_int (pa_cons pe_int (pa_cons pe_int (pa_cons pe_int pa_nil)))))) pa_nil))))
        (pss_cons (ps_set (i := 3) sc_l_single.nd rfl (.inl rfl) (pe_call G7 hr (by rfl) g7 kp7 b7 .nil pass0 (pa_cons (pv 0) (pa_cons (pe_call G6 hr (by rfl) g6 kp6 b6 .nil pass0 (pa_cons (pv 0) pa_nil)) (pa_cons (pv 2)
              (pa_cons (pe_call G4 hr (by rfl) g4 kp4 b4 .nil pass0 (pa_cons (pv 0) (pa_cons (pe_lst (pa_cons pe_int (pa_cons pe_int (pa_cons pe_int pa_nil)))) pa_nil))) pa_nil))))))
        (pss_one (ps_if (pt_cmpR op_lt (pe_callB call_lenD (by rfl) m1 PySem.boot_len (pa_cons (pe_call G9 hr (by rfl) g9 kp9 b9 .nil pass0 (pa_cons (pe_call G8 hr (by rfl) g8 kp8 b8 .nil pass0 (pa_cons (pv 3) (pa_cons (pv 3) pa_nil))) pa_nil)) pa_nil)) pe_int (nomark _))
          (pss_one (ps_ret (pv 3))) pss_nil)))))
      (pss_one (ps_ret (pe_call G7 hr (by rfl) g7 kp7 b7 .nil pass0 (pa_cons (pv 0) (pa_cons (pe_call G6 hr (by rfl) g6 kp6 b6 .nil pass0 (pa_cons (pv 0) pa_nil)) (pa_cons pe_int (pa_cons pe_int pa_nil))))))), ?_⟩
    have big : 4000 ≤ sizeLine := by rw [sizeLine_eq]; decide
    refine ⟨3, rfl, by decide, by decide, ?_⟩
    refine for_range (lo := 0) (n := 3) (fun i σ H' => ∃ v1 v2 v3, σ = [some (.ref p), v1, v2, v3] ∧ But p H H' ∧ PenAt H' p) ⟨_, _, _, rfl, fun _ _ _ z => z, hp⟩ ?_ ?_
    · rintro i σ H3 hi ⟨v1, v2, v3, rfl, c3, p3⟩
      refine ⟨.ref p, rfl, by show 5 ≤ sizeLine; omega, fun l nl => ⟨p, l, [2, 4, 5, 8, 8], rfl, p3.new nl, (p3.ne nl).symm, upd_same, by decide, by decide, fun H4 far hfar p4 b4' => ?_⟩⟩
      have hf : 0 ≤ far ∧ far ≤ 8 := by
        have h6 : ∀ z ∈ ([2, 4, 5, 8, 8] : List Int), 0 ≤ z ∧ z ≤ 8 := by decide
        exact h6 far hfar
      have c4 : But p H H4 := (c3.trans (.of (same_new nl))).trans b4'
      clear b4'
      refine ⟨.ref p, rfl, .ref p, rfl, p, rfl, p4, fun H5 nmA nn p5 b5 nnm nnp hnm lnn inn unn => ?_⟩
      have c5 : But p H H5 := c4.trans b5
      refine ⟨.int far, rfl, .ref p, rfl, by show 3 ≤ sizeLine; omega, fun l2 nl2 => ⟨p, l2, [1, 1, 3], rfl, p5.new nl2, (p5.ne nl2).symm, upd_same, by decide, by decide, fun H6 bl hbl p6 b6' => ?_⟩⟩
      have hb3 : 1 ≤ bl ∧ bl ≤ 3 := by
        have h3 : ∀ z ∈ ([1, 1, 3] : List Int), 1 ≤ z ∧ z ≤ 3 := by decide
        exact h3 bl hbl
      have b56 : But p H5 H6 := (But.of (same_new nl2)).trans b6'
      have c6 := c5.trans b56
      refine ⟨p, nmA, nn, far, bl, rfl, p6, nnp, b56 _ _ nnp hnm, lnn, inn, hf.1, by omega, hb3.1, hb3.2, fun H7 t its p7 b7' nt ht hk hblk => ?_⟩
      have c7 := c6.trans b7'
      have hb8 := near_bars hblk unn hf.1 hf.2
      have hT7 : SqT K H7 t (its.map V.int) := .inl (.inl ht)
      have ntH : H t = none := hp.free p6 c6 nt
      clear b7' b56 b6' b5
      refine ⟨.ref t, rfl, .ref t, rfl, t, t, its, its, rfl, hT7, hT7, hk, hk, fun H8 l8 ms e8 nl8 hl8 lms pms mem => ?_⟩
      obtain ⟨s1, s2, s3⟩ := span_ok hb8 pms mem
      refine ⟨l8, ms, rfl, hl8, lms, s1, s2, fun H9 D ps e9 M => ?_⟩
      have e79 := e8.trans e9
      refine ⟨D, _, rfl, M.at_, ?_⟩
      refine ⟨_, _, rfl, rfl, _, rfl, ite2 (fun c => ?_) (fun c => ?_)⟩
      · exact ⟨.ref t, rfl, q H9 t its (p7.same e79) (c7.trans (.of e79)) ntH (e79 _ _ ht) hk hb8⟩
      · exact ⟨_, _, _, rfl, c7.trans (.of e79), p7.same e79⟩
    · rintro σ H3 ⟨v1, v2, v3, rfl, c3, p3⟩
      refine ⟨.ref p, rfl, .ref p, rfl, p, rfl, p3, fun H5 nmA nn p5 b5 nnm nnp hnm lnn inn unn => ?_⟩
      refine ⟨p, nmA, nn, 4, 1, rfl, p5, nnp, hnm, lnn, inn, by decide, by decide, by decide, by decide, fun H7 t its p7 b7' nt ht hk hblk => ?_⟩
      have c5 := c3.trans b5
      exact q H7 t its p7 (c5.trans b7') (hp.free p5 c5 nt) ht hk (near_bars hblk unn (by decide) (by decide))
end
end Sg
set_option Elab.async false
set_option linter.all false
set_option maxRecDepth 100000
set_option maxHeartbeats 4000000
namespace Sg
open PySem PySem.Spec PyProof.Rows L2 StX
/-! ## the two works by hand -/
theorem wk_cert {B : Nat} {L : List Nat} {f : Nat → Int} {t b : Int} (h : ∀ u ∈ L, ∀ e ∈ edM B u, e.1 ∈ L ∧ b * e.2 - t ≤ f e.1 - f u) {u v n : Nat} {g : Int} (w : Wk (edM B) u n g v) (hu : u ∈ L) : v ∈ L ∧ b * g - t * (n : Int) ≤ f v - f u := by
  induction w with
  | nil => exact ⟨hu, by simp⟩
  | snoc _ e ih =>
    obtain ⟨h1, h2⟩ := ih
    obtain ⟨h3, h4⟩ := h _ h1 _ e
    refine ⟨h3, ?_⟩
    have h4 : b * _ - t ≤ _ := h4
    rw [Int.mul_add, Int.natCast_succ, Int.mul_add, Int.mul_one]
    dsimp only at h4
    omega
theorem hand_is {x : List Int} {B : Nat} {hi : Int × Int} {cs : List (Option Nat)} (hC : BestC [x] [1] hi cs) (hB : IsB B (barsN x x)) (T : List (Nat × Int)) (t b : Int) (c : List Bool) (u : Nat) (h0 : 0 ∈ T.map (·.1))
    (hT : ∀ u ∈ T.map (·.1), ∀ e ∈ edM B u, e.1 ∈ T.map (·.1) ∧ b * e.2 - t ≤ ((T.find? fun p => decide (p.1 = e.1)).map (·.2)).getD 0 - ((T.find? fun p => decide (p.1 = u)).map (·.2)).getD 0)
    (h1 : goM B 0 c = some u) (h2 : goM B u c = some u) (h3 : b * cntB c = t * (c.length : Int)) (l0 : 0 < c.length) (c0 : 0 < cntB c) (hl : LowF (t, b)) : hi = (t, b) := by
  have M := meanIs_of hB hC h0 fun u hu y c h => (hT u hu (y, c) h).1
  have p := hC.low.pos
  have q := hl.pos
  have q : 0 < b := q
  refine low_eqF hC.low hl ?_ ?_
  · obtain ⟨v, m, s, n, g, w1, w2, n0, e⟩ := M.hit
    have W := @wk_cert B (T.map (·.1)) (fun z => ((T.find? fun p => decide (p.1 = z)).map (·.2)).getD 0) t b hT
    have hv := (W w1 h0).1
    have h := (W w2 hv).2
    rw [Int.sub_self] at h
    show hi.1 * b ≤ t * hi.2
    have hn : (0 : Int) < n := by omega
    refine Int.le_of_mul_le_mul_left ?_ hn
    calc (n : Int) * (hi.1 * b) = b * (hi.1 * (n : Int)) := by ac_rfl
      _ = b * (hi.2 * g) := by rw [e]
      _ = hi.2 * (b * g) := by ac_rfl
      _ ≤ hi.2 * (t * (n : Int)) := Int.mul_le_mul_of_nonneg_left (by omega) (Int.le_of_lt p)
      _ = (n : Int) * (t * hi.2) := by ac_rfl
  · have h := M.top u c.length (cntB c) _ _ (go_wk _ _ h1) (go_wk _ _ h2) l0
    show t * hi.2 ≤ hi.1 * b
    have hn : (0 : Int) < c.length := by omega
    refine Int.le_of_mul_le_mul_left ?_ hn
    calc (c.length : Int) * (t * hi.2) = hi.2 * (t * (c.length : Int)) := by ac_rfl
      _ = hi.2 * (b * cntB c) := by rw [h3]
      _ = b * (hi.2 * cntB c) := by ac_rfl
      _ ≤ b * (hi.1 * (c.length : Int)) := Int.mul_le_mul_of_nonneg_left h (Int.le_of_lt q)
      _ = (c.length : Int) * (hi.1 * b) := by ac_rfl
def handA : List Int := [0, 0, -1, -1, -1, -1, 0]
def handB : List Int := [3]
theorem handA_work : IsWork handA := ⟨by decide, by decide, by decide, fun x hx => by cases hx; decide, fun x hx => by cases hx; decide⟩
theorem handB_work : IsWork handB := ⟨by decide, by decide, by decide, fun x hx => by cases hx; decide, fun x hx => by cases hx; decide⟩
theorem handA_bars : barsN handA handA = [1, 5, 6] := by decide +kernel
theorem handB_bars : barsN handB handB = [] := by decide +kernel
theorem handA_8 : ∀ d ∈ barsN handA handA, d ≤ 8 := by decide +kernel
theorem handB_8 : ∀ d ∈ barsN handB handB, d ≤ 8 := by decide +kernel
theorem handA_B : IsB 49 (barsN handA handA) := by
  have := (mask_is (ns := [1, 5, 6]) (bs := barsN handA handA) (by decide) (fun k => by rw [handA_bars]; simp) (by rw [handA_bars]; decide)).1
  exact this
theorem handB_B : IsB 0 (barsN handB handB) := by
  have := (mask_is (ns := []) (bs := barsN handB handB) (by decide) (fun k => by rw [handB_bars]; simp) (by rw [handB_bars]; decide)).1
  exact this
def tabA : List (Nat × Int) := [(0, 0), (49, 5), (24, 3), (12, 1), (61, 8), (6, 0), (55, 6), (30, 6), (3, 3), (51, 5), (27, 4), (15, 7), (63, 11), (1, 1), (25, 3), (13, 2), (7, 5), (31, 9)]
theorem handA_is {hi : Int × Int} {cs : List (Option Nat)} (h : BestC [handA] [1] hi cs) : hi = (2, 7) :=
  hand_is h handA_B tabA 2 7 [false, false, false, true, false, false, true] 55 (by decide) (by decide +kernel) (by decide +kernel) (by decide +kernel) (by decide) (by decide) (by decide) ⟨by decide, by decide, by decide⟩
theorem handB_is {hi : Int × Int} {cs : List (Option Nat)} (h : BestC [handB] [1] hi cs) : hi = (1, 1) :=
  hand_is h handB_B [(0, 0)] 1 1 [true] 0 (by decide) (by decide +kernel) (by decide +kernel) (by decide +kernel) (by decide) (by decide) (by decide) ⟨by decide, by decide, by decide⟩
end Sg
set_option Elab.async false
set_option linter.all false
set_option maxRecDepth 100000
set_option maxHeartbeats 4000000
namespace Sg
open PySem PySem.Spec PyProof.Rows L2 StX
theorem fr_dp {K : PySem.W.Frag} {H : Hp} {t : Addr} {p : Int × Int} (h : FrAt H t p) : Dp K H (.ref t) (tD [p.1, p.2]) := .tup (.of h) (dpInts [p.1, p.2])
theorem fr_shows {p : Int × Int} (h : 0 ≤ p.1 ∧ p.1 ≤ 256 ∧ 0 ≤ p.2 ∧ p.2 ≤ 256) : Shows (tD [p.1, p.2]) :=
  (Small.tuple (n := 1) ((SmallAll.ints [p.1, p.2] fun x hx => by
    rcases List.mem_cons.mp hx with rfl | hx
    · omega
    · rw [List.mem_singleton.mp hx]; omega).mono (Nat.le_refl _) (show [p.1, p.2].length ≤ 10 by simp))).shows (by decide) (by decide)
def spLaw (K : PySem.W.Frag) : Sp := fun vs H Q _ => ∃ (a : Addr) (ns : List Int), vs = [.ref a] ∧ SqL K H a (ns.map V.int) ∧ ns.length ≤ 63 ∧ ∀ H', Q (.bl true) H'
section
variable {P : Program} {w : World} {K : PySem.W.Frag} {mg : Str → Option Value} {base : Heap}
theorem ok_law {f f1 f2 f4 f6 f7 f8 f9 fs : Addr} {fd fd1 fd2 fd4 fd6 fd7 fd8 fd9 fds : FuncData} {k : Nat} (F : Fun K "law" "law" s_law f fd)
    (G1 : FnOk P w K mg base CX0 k f1 fd1 ["_law_script", "_law_k"] (spCell K)) (kp1 : PySem.W.keepIn K (.ref f1) = true) (b1 : Binds K fd1 ["_law_script", "_law_k"] []) (g1 : mg "_law_cell_at" = some (.ref f1))
    (G2 : FnOk P w K mg base CX0 k f2 fd2 ["_law_cell"] spPen) (kp2 : PySem.W.keepIn K (.ref f2) = true) (b2 : Binds K fd2 ["_law_cell"] []) (g2 : mg "_law_pen" = some (.ref f2))
    (G4 : FnOk P w K mg base CX0 k f4 fd4 ["_law_pen_here"] spSingle) (kp4 : PySem.W.keepIn K (.ref f4) = true) (b4 : Binds K fd4 ["_law_pen_here"] []) (g4 : mg "_law_single" = some (.ref f4))
    (G6 : FnOk P w K mg base CX0 k f6 fd6 ["_law_spans"] spMasks) (kp6 : PySem.W.keepIn K (.ref f6) = true) (b6 : Binds K fd6 ["_law_spans"] []) (g6 : mg "_law_masks" = some (.ref f6))
    (G7 : FnOk P w K mg base CX0 k f7 fd7 ["_law_found"] spLGap) (kp7 : PySem.W.keepIn K (.ref f7) = true) (b7 : Binds K fd7 ["_law_found"] []) (g7 : mg "_law_gap" = some (.ref f7))
    (G8 : FnOk P w K mg base CX0 k f8 fd8 ["_law_one", "_law_other"] (spBetween K)) (kp8 : PySem.W.keepIn K (.ref f8) = true) (b8 : Binds K fd8 ["_law_one", "_law_other"] []) (g8 : mg "_law_between" = some (.ref f8))
    (G9 : FnOk P w K mg base CX0 k f9 fd9 ["work"] (spGapC K)) (kp9 : PySem.W.keepIn K (.ref f9) = true) (b9 : Binds K fd9 ["work"] []) (g9 : mg "gap" = some (.ref f9))
    (Gs : FnG P w K mg base k fs fds ["_law_found", "_law_due"] (spSame K)) (kps : PySem.W.keepIn K (.ref fs) = true) (bs : Binds K fds ["_law_found", "_law_due"] []) (gs : mg "_law_same" = some (.ref fs))
    (kb : KBinds K fd9 ["work"] ["work"] kwI kwI)
    (m1 : mg "len" = none) (m2 : mg "range" = none) (m5 : mg "max" = none) (m6 : mg "min" = none) : FnG P w K mg base (k + 1) f fd ["_law_script"] (spLaw K) := by
  refine fnG_mk F sc_law (fun vs H Q h => ?_) (fun cdv A outer s H vs Q hgd hr h => ?_)
  · obtain ⟨a, ns, rfl, _⟩ := h; rfl
  · obtain ⟨a, ns, rfl, hS, hlen, q⟩ := h
    have hu := hr.units
    refine ⟨_, pss_cons (ps_for PassesOwn.never rfl (pi_range1 (by rfl) m2 (pa_cons (pe_callB (call_max2 rfl) (by rfl) m5 (by decide +kernel) (pa_cons pe_int (pa_cons (pe_callB (call_min2 rfl) (by rfl) m6 (by decide +kernel) (pa_cons (pe_callB call_len_seq (by rfl) m1 PySem.boot_len (pa_cons (pv 0) pa_nil)) (pa_cons pe_int pa_nil))) pa_nil))) pa_nil)) (pg_name (i := 1) sc_law.nd rfl (.inl rfl))
          (pss_cons (ps_set (i := 2) sc_law.nd rfl (.inl rfl) (pe_call G2 hr (by rfl) g2 kp2 b2 .nil pass0 (pa_cons (pe_call G1 hr (by rfl) g1 kp1 b1 .nil pass0 (pa_cons (pv 0) (pa_cons (pv 1) pa_nil))) pa_nil)))
          (pss_one (ps_for PassesOwn.never rfl (pi_range1 (by rfl) m2 (pa_cons pe_int pa_nil)) (pg_name (i := 3) sc_law.nd rfl (.inl rfl))
            (pss_cons (ps_set (i := 4) sc_law.nd rfl (.inl rfl) (pe_call G4 hr (by rfl) g4 kp4 b4 .nil pass0 (pa_cons (pv 2) pa_nil)))
            (pss_cons (ps_set (i := 5) sc_law.nd rfl (.inl rfl) (pe_call G7 hr (by rfl) g7 kp7 b7 .nil pass0 (pa_cons (pe_call G6 hr (by rfl) g6 kp6 b6 .nil pass0 (pa_cons (pe_call G8 hr (by rfl) g8 kp8 b8 .nil pass0 (pa_cons (pv 4) (pa_cons (pv 4) pa_nil))) pa_nil)) pa_nil)))
            (pss_cons (ps_for PassesOwn.never rfl (pi_range1 (by rfl) m2 (pa_cons pe_int pa_nil)) (pg_name (i := 6) sc_law.nd rfl (.inl rfl))
              (pss_one (ps_if (pt_not (pt_val (pe_callG Gs hgd hr (by rfl) gs kps bs (pa_cons (pe_call G9 hr (by rfl) g9 kp9 b9 .nil pass0 (pa_cons (pv 4) pa_nil)) (pa_cons (pv 5) pa_nil))))) (pss_one (ps_ret pe_bl)) pss_nil)))
            (pss_one (ps_if (pt_not (pt_val (pe_callG Gs hgd hr (by rfl) gs kps bs (pa_cons (pe_callK0 G9 hr (by rfl) g9 kp9 kb pass0 (pk_cons (pv 4) pk_nil)) (pa_cons (pv 5) pa_nil))))) (pss_one (ps_ret pe_bl)) pss_nil)))))))))
        (pss_one (ps_ret (pe_and (pe_cmpR (op_eqD hu) (pe_call G9 hr (by rfl) g9 kp9 b9 .nil pass0 (pa_cons (pe_tup (pa_cons pe_int (pa_cons pe_int (pa_cons (pe_un un_neg pe_int) (pa_cons (pe_un un_neg pe_int) (pa_cons (pe_un un_neg pe_int) (pa_cons (pe_un un_neg pe_int) (pa_cons pe_int pa_nil)))))))) pa_nil)) (pe_tup (pa_cons pe_int (pa_cons pe_int pa_nil))) (nomark _))
          (pe_one (pe_cmpR (op_eqD hu) (pe_call G9 hr (by rfl) g9 kp9 b9 .nil pass0 (pa_cons (pe_tup (pa_cons pe_int pa_nil)) pa_nil)) (pe_tup (pa_cons pe_int (pa_cons pe_int pa_nil))) (nomark _)))))), ?_⟩
    have big : 4000 ≤ sizeLine := by rw [sizeLine_eq]; decide
    have l63 : ((ns.map V.int).length : Int) ≤ 63 := by rw [List.length_map]; omega
    refine ⟨.ref a, rfl, a, _, rfl, .inl hS, _, 3, rfl, 1, _, rfl, ?_⟩
    obtain ⟨N, hN, hN0, hN4⟩ : ∃ N : Int, (if (if (3 : Int) < ((ns.map V.int).length : Nat) then (3 : Int) else ((ns.map V.int).length : Nat)) > 1 then (if (3 : Int) < ((ns.map V.int).length : Nat) then (3 : Int) else ((ns.map V.int).length : Nat)) else 1) = N ∧ 0 ≤ N ∧ N ≤ 4 := by
      refine ⟨_, rfl, ?_, ?_⟩
      · split <;> split <;> omega
      · split <;> split <;> omega
    rw [hN]
    refine ⟨N, rfl, by omega, by omega, ?_⟩
    refine for_range (lo := 0) (n := N.toNat) (fun i σ H' => ∃ v1 v2 v3 v4 v5 v6, σ = [some (.ref a), v1, v2, v3, v4, v5, v6] ∧ Same H H') ⟨_, _, _, _, _, _, rfl, fun _ _ z => z⟩ ?_ ?_
    · rintro i σ H1 hi ⟨v1, v2, v3, v4, v5, v6, rfl, e1⟩
      refine ⟨.ref a, rfl, .int (0 + i), rfl, a, ns, i, by rw [Int.zero_add]; rfl, e1.seq hS, fun cell => ?_⟩
      refine ⟨cell, rfl, fun H2 p np s2 p2 => ?_⟩
      have npH : H p = none := freeS e1 np
      have o2 : Same H H2 := e1.trans s2
      refine ⟨2, rfl, by decide, by decide, ?_⟩
      refine for_range (lo := 0) (n := 2) (fun j σ H' => ∃ v3 v4 v5 v6, σ = [some (.ref a), some (.int (0 + i)), some (.ref p), v3, v4, v5, v6] ∧ But p H2 H' ∧ PenAt H' p) ⟨_, _, _, _, rfl, fun _ _ _ z => z, p2⟩ ?_ ?_
      · rintro j σ H3 hj ⟨v3, v4, v5, v6, rfl, c3, p3⟩
        refine ⟨.ref p, rfl, p, rfl, p3, fun H7 t its p7 b7' nt ht hk hb8 => ?_⟩
        have c7 := c3.trans b7'
        have hT7 : SqT K H7 t (its.map V.int) := .inl (.inl ht)
        clear b7'
        refine ⟨.ref t, rfl, .ref t, rfl, t, t, its, its, rfl, hT7, hT7, hk, hk, fun H8 l8 ms e8 nl8 hl8 lms pms mem => ?_⟩
        obtain ⟨s1, s2', s3⟩ := span_ok hb8 pms mem
        refine ⟨l8, ms, rfl, hl8, lms, s1, s2', fun H9 D ps e9 M => ?_⟩
        refine ⟨D, _, ps, rfl, M, fun HA u pr eA hu' pb pis => ?_⟩
        have e7A := (e8.trans e9).trans eA
        have sh := fr_shows pb
        have pis : ∀ hi cs, BestC [its] [1] hi cs → pr = (hi.2, hi.1) := fun hi cs h => pis its hi cs s3 h
        refine ⟨2, rfl, by decide, by decide, ?_⟩
        refine for_range (lo := 0) (n := 2) (fun m σ H' => ∃ v6, σ = [some (.ref a), some (.int (0 + i)), some (.ref p), some (.int (0 + j)), some (.ref t), some (.ref u), v6] ∧ Same HA H') ⟨_, rfl, fun _ _ z => z⟩ ?_ ?_
        · rintro m σ H10 hm ⟨v6, rfl, e10⟩
          refine ⟨.ref t, rfl, t, its, rfl, Same.tup (e7A.trans e10) hT7, hk, hb8, fun H11 y hi cs e11 hy hC _ => ?_⟩
          have hpr := pis hi cs hC
          rw [← hpr] at hy
          exact ⟨.ref u, rfl, y, u, tD [pr.1, pr.2], rfl, fr_dp hy, fr_dp ((e10.trans e11) _ _ hu'), sh, true, rfl, iteF ⟨_, rfl, e10.trans e11⟩⟩
        · rintro σ H10 ⟨v6, rfl, e10⟩
          refine ⟨.ref t, rfl, t, its, rfl, Same.tup (e7A.trans e10) hT7, hk, hb8, fun H11 y hi cs e11 hy hC _ => ?_⟩
          have hpr := pis hi cs hC
          rw [← hpr] at hy
          exact ⟨.ref u, rfl, y, u, tD [pr.1, pr.2], rfl, fr_dp hy, fr_dp ((e10.trans e11) _ _ hu'), sh, true, rfl, iteF ⟨_, _, _, _, rfl, c7.trans (.of (e7A.trans (e10.trans e11))), p7.same (e7A.trans (e10.trans e11))⟩⟩
      · rintro σ H3 ⟨v3, v4, v5, v6, rfl, c3, p3⟩
        exact ⟨_, _, _, _, _, _, rfl, fun b o h => c3 _ _ (ne_of_none h npH) (o2 _ _ h)⟩
    · rintro σ H1 ⟨v1, v2, v3, v4, v5, v6, rfl, e1⟩
      refine ⟨1, rfl, 1, rfl, 1, rfl, 1, rfl, by show 7 ≤ sizeLine; omega, fun o no => ⟨o, handA, rfl, .of upd_same, handA_work, handA_8, fun H2 y hi cs e2 hy hC _ => ?_⟩⟩
      obtain rfl := handA_is hC
      refine ⟨by show 2 ≤ sizeLine; omega, fun o3 no3 => ?_⟩
      have s3 := same_new (o := .tup [V.int 7, .int 2]) no3
      have h3 : FrAt (L2.upd H2 o3 (.tup [V.int 7, .int 2])) o3 (7, 2) := upd_same
      have hy3 : FrAt (L2.upd H2 o3 (.tup [V.int 7, .int 2])) y (7, 2) := s3 _ _ hy
      generalize L2.upd H2 o3 (.tup [V.int 7, .int 2]) = H3 at h3 hy3 ⊢
      refine ⟨tD [7, 2], tD [7, 2], fr_dp hy3, fr_dp h3, shaped_tD _, shaped_tD _, ?_⟩
      rw [eqv_tD]
      refine ⟨true, rfl, iteT ?_⟩
      refine ⟨by show 1 ≤ sizeLine; omega, fun o' no' => ⟨o', handB, rfl, .of upd_same, handB_work, handB_8, fun H2 y hi cs e2 hy hC _ => ?_⟩⟩
      obtain rfl := handB_is hC
      refine ⟨by show 2 ≤ sizeLine; omega, fun o3 no3 => ?_⟩
      have s3 := same_new (o := .tup [V.int 1, .int 1]) no3
      have h3 : FrAt (L2.upd H2 o3 (.tup [V.int 1, .int 1])) o3 (1, 1) := upd_same
      have hy3 : FrAt (L2.upd H2 o3 (.tup [V.int 1, .int 1])) y (1, 1) := s3 _ _ hy
      generalize L2.upd H2 o3 (.tup [V.int 1, .int 1]) = H3 at h3 hy3 ⊢
      refine ⟨tD [1, 1], tD [1, 1], fr_dp hy3, fr_dp h3, shaped_tD _, shaped_tD _, ?_⟩
      rw [eqv_tD]
      exact q _
end
end Sg
set_option Elab.async false
set_option linter.all false
set_option maxRecDepth 100000
set_option maxHeartbeats 4000000
namespace Sg
open PySem PySem.Spec PyProof.Rows L2 StX
theorem PSs.imp {X : Cx} {sts : List Stmt} {t t' : TS} (h : PSs X sts t) (i : ∀ D σ H, t' D σ H → t D σ H) : PSs X sts t' := ⟨fun pins s σ H D I q => h.run pins s σ H D I (i _ _ _ q)⟩
theorem Has.up {P : Program} {w : World} {K : PySem.W.Frag} {mg : Str → Option Value} {base : Heap} {k j : Nat} {C : Addr} {n : Str} {f : Addr} {fd : FuncData} {ps : List Str} {sp : Sp} (h : Has P w K mg base k C n f fd ps sp) (e : k ≤ j) : Has P w K mg base j C n f fd ps sp := ⟨h.ok.mono e, h.bi, h.at_, h.fn⟩
theorem Meths.up {P : Program} {w : World} {K : PySem.W.Frag} {mg : Str → Option Value} {base : Heap} {k j : Nat} {C : Addr} (M : Meths P w K mg base k C) (e : k ≤ j) : Meths P w K mg base j C := by
  obtain ⟨a1, a2, a3, ⟨_, _, a4⟩, ⟨_, _, a5, b5⟩, ⟨_, _, a6⟩, ⟨_, _, a7⟩, ⟨_, _, a8⟩, ⟨_, _, a9⟩, ⟨_, _, _, c1, c2, c3⟩, ⟨_, _, _, r1, r2, r3⟩, ⟨_, d1, d2⟩⟩ := M
  exact ⟨a1, a2, a3, ⟨_, _, a4.up e⟩, ⟨_, _, a5.up e, b5⟩, ⟨_, _, a6.up e⟩, ⟨_, _, a7.up e⟩, ⟨_, _, a8.up e⟩, ⟨_, _, a9.up e⟩, ⟨_, _, _, c1, c2.mono e, c3⟩, ⟨_, _, _, r1, r2.mono e, r3⟩, ⟨_, d1, d2.mono e⟩⟩
theorem Meths2.up {P : Program} {w : World} {K : PySem.W.Frag} {mg : Str → Option Value} {base : Heap} {k j : Nat} {C : Addr} (M : Meths2 P w K mg base k C) (e : k ≤ j) : Meths2 P w K mg base j C := by
  obtain ⟨m, ⟨_, _, a, b⟩, ⟨_, _, c⟩⟩ := M
  exact ⟨m.up e, ⟨_, _, a.up e, b⟩, ⟨_, _, c.up e⟩⟩
end Sg
set_option Elab.async false
set_option linter.all false
set_option maxRecDepth 100000
set_option maxHeartbeats 4000000
namespace Sg
open PySem PySem.Spec PyProof.Rows L2 StX
theorem all_mk {l : PySem.W.OpenLaw} {w : World} {K : PySem.W.Frag} {h : Heap} {mg : Str → Option Value} {fa fd0 fd1 fd2 fd3 fd4 fd5 fd6 fd7 fd8 fd9 fd10 fd11 fd12 fd13 fd14 fd15 fd16 fd17 fd18 fd19 fd20 fd21 fd22 fd23 Dd23 fd24 fd25 fd26 fd27 fd28 fd29 fd30 fd31 fd32 fd33 fd34 fd35 fd36 fd37 fd38 fd39 fd40 fd41 fd42 fd43 fd44 fd45 fd46 fd47 fd48 fd49 fd50 C fm0 fm1 fm2 fm3 fm4 fm5 fm6 fm7 fm8 pp0 fp0 pp1 fp1 : Addr} {tu_NOWHERE tu_STATIONS tu_MOST_ITEMS tu_MOST_WORKS tu_NOTHING tu_MOST_WORTH : Tok} {rsp0 rsp1 : List Value} {fo ro : Option Value} {odd0 and0 odd1 and1 odd2 and2 odd3 and3 odd4 and4 odd5 and5 odd6 and6 odd7 and7 odd8 and8 odd9 and9 odd10 and10 odd11 and11 odd12 and12 odd13 and13 odd14 and14 odd15 and15 odd16 and16 odd17 and17 odd18 and18 odd19 and19 odd20 and20 odd21 and21 odd22 and22 odd23 and23 odd24 and24 odd25 and25 odd26 and26 odd27 and27 odd28 and28 odd29 and29 odd30 and30 odd31 and31 odd32 and32 odd33 and33 odd34 and34 odd35 and35 odd36 and36 odd37 and37 odd38 and38 odd39 and39 odd40 and40 odd41 and41 odd42 and42 odd43 and43 odd44 and44 odd45 and45 odd46 and46 odd47 and47 odd48 and48 odd49 and49 odd50 and50 odm0 anm0 odm1 anm1 odm2 anm2 odm3 anm3 odm4 anm4 odm5 anm5 odm6 anm6 odm7 anm7 odm8 anm8 odp0 anp0 odp1 anp1 : Option Addr} {sld0 sld1 sld2 sld3 sld4 sld5 sld6 sld7 sld8 sld9 sld10 sld11 sld12 sld13 sld14 sld15 sld16 sld17 sld18 sld19 sld20 sld21 sld22 sld23 sld24 sld25 sld26 sld27 sld28 sld29 sld30 sld31 sld32 sld33 sld34 sld35 sld36 sld37 sld38 sld39 sld40 sld41 sld42 sld43 sld44 sld45 sld46 sld47 sld48 sld49 sld50 slm0 slm1 slm2 slm3 slm4 slm5 slm6 slm7 slm8 slp0 slp1 : Array (Option Value)} {ocd0 kVd0 dcd0 pmd0 cdd0 ctd0 ocd1 kVd1 dcd1 pmd1 cdd1 ctd1 ocd2 kVd2 dcd2 pmd2 cdd2 ctd2 ocd3 kVd3 dcd3 pmd3 cdd3 ctd3 ocd4 kVd4 dcd4 pmd4 cdd4 ctd4 ocd5 kVd5 dcd5 pmd5 cdd5 ctd5 ocd6 kVd6 dcd6 pmd6 cdd6 ctd6 ocd7 kVd7 dcd7 pmd7 cdd7 ctd7 ocd8 kVd8 dcd8 pmd8 cdd8 ctd8 ocd9 kVd9 dcd9 pmd9 cdd9 ctd9 ocd10 kVd10 dcd10 pmd10 cdd10 ctd10 ocd11 kVd11 dcd11 pmd11 cdd11 ctd11 ocd12 kVd12 dcd12 pmd12 cdd12 ctd12 ocd13 kVd13 dcd13 pmd13 cdd13 ctd13 ocd14 kVd14 dcd14 pmd14 cdd14 ctd14 ocd15 kVd15 dcd15 pmd15 cdd15 ctd15 ocd16 kVd16 dcd16 pmd16 cdd16 ctd16 ocd17 kVd17 dcd17 pmd17 cdd17 ctd17 ocd18 kVd18 dcd18 pmd18 cdd18 ctd18 ocd19 kVd19 dcd19 pmd19 cdd19 ctd19 ocd20 kVd20 dcd20 pmd20 cdd20 ctd20 ocd21 kVd21 dcd21 pmd21 cdd21 ctd21 ocd22 kVd22 dcd22 pmd22 cdd22 ctd22 ocd23 kVd23 dcd23 pmd23 cdd23 ctd23 ocd24 kVd24 dcd24 pmd24 cdd24 ctd24 ocd25 kVd25 dcd25 pmd25 cdd25 ctd25 ocd26 kVd26 dcd26 pmd26 cdd26 ctd26 ocd27 kVd27 dcd27 pmd27 cdd27 ctd27 ocd28 kVd28 dcd28 pmd28 cdd28 ctd28 ocd29 kVd29 dcd29 pmd29 cdd29 ctd29 ocd30 kVd30 dcd30 pmd30 cdd30 ctd30 ocd31 kVd31 dcd31 pmd31 cdd31 ctd31 ocd32 kVd32 dcd32 pmd32 cdd32 ctd32 ocd33 kVd33 dcd33 pmd33 cdd33 ctd33 ocd34 kVd34 dcd34 pmd34 cdd34 ctd34 ocd35 kVd35 dcd35 pmd35 cdd35 ctd35 ocd36 kVd36 dcd36 pmd36 cdd36 ctd36 ocd37 kVd37 dcd37 pmd37 cdd37 ctd37 ocd38 kVd38 dcd38 pmd38 cdd38 ctd38 ocd39 kVd39 dcd39 pmd39 cdd39 ctd39 ocd40 kVd40 dcd40 pmd40 cdd40 ctd40 ocd41 kVd41 dcd41 pmd41 cdd41 ctd41 ocd42 kVd42 dcd42 pmd42 cdd42 ctd42 ocd43 kVd43 dcd43 pmd43 cdd43 ctd43 ocd44 kVd44 dcd44 pmd44 cdd44 ctd44 ocd45 kVd45 dcd45 pmd45 cdd45 ctd45 ocd46 kVd46 dcd46 pmd46 cdd46 ctd46 ocd47 kVd47 dcd47 pmd47 cdd47 ctd47 ocd48 kVd48 dcd48 pmd48 cdd48 ctd48 ocd49 kVd49 dcd49 pmd49 cdd49 ctd49 ocd50 kVd50 dcd50 pmd50 cdd50 ctd50 ocm0 kVm0 dcm0 pmm0 cdm0 ctm0 ocm1 kVm1 dcm1 pmm1 cdm1 ctm1 ocm2 kVm2 dcm2 pmm2 cdm2 ctm2 ocm3 kVm3 dcm3 pmm3 cdm3 ctm3 ocm4 kVm4 dcm4 pmm4 cdm4 ctm4 ocm5 kVm5 dcm5 pmm5 cdm5 ctm5 ocm6 kVm6 dcm6 pmm6 cdm6 ctm6 ocm7 kVm7 dcm7 pmm7 cdm7 ctm7 ocm8 kVm8 dcm8 pmm8 cdm8 ctm8 ocp0 kVp0 dcp0 pmp0 cdp0 ctp0 ocp1 kVp1 dcp1 pmp1 cdp1 ctp1 : Value} {ocDd23 : Value} {odDd23 : Option Addr} {nDd23 : Nat} {slDd23 : Array (Option Value)} {tDd23_0 tDd23_1 : Tok} (X : K.In h) (G : h.Ns mainGlobals mg) (hfa : mg "law" = some (.ref fa))
    (ad0 : PySem.W.nsIn K mainGlobals "is_int" = some (some (.ref fd0)))
    (ld0 : K.lookup fd0 = some ⟨ocd0, odd0, .func (PySem.W.fnOf "is_int" "is_int" (defArgs s_is_int) (defBody s_is_int) (defScope s_is_int) .none kVd0 dcd0 pmd0 and0 cdd0 ctd0), sld0⟩)
    (cd0 : PySem.W.codeIn K cdd0 "is_int" = true)
    (kd0 : PySem.W.keepIn K (.ref fd0) = true)
    (ad1 : PySem.W.nsIn K mainGlobals "is_between" = some (some (.ref fd1)))
    (ld1 : K.lookup fd1 = some ⟨ocd1, odd1, .func (PySem.W.fnOf "is_between" "is_between" (defArgs s_is_between) (defBody s_is_between) (defScope s_is_between) .none kVd1 dcd1 pmd1 and1 cdd1 ctd1), sld1⟩)
    (cd1 : PySem.W.codeIn K cdd1 "is_between" = true)
    (kd1 : PySem.W.keepIn K (.ref fd1) = true)
    (ad2 : PySem.W.nsIn K mainGlobals "fraction" = some (some (.ref fd2)))
    (ld2 : K.lookup fd2 = some ⟨ocd2, odd2, .func (PySem.W.fnOf "fraction" "fraction" (defArgs s_fraction) (defBody s_fraction) (defScope s_fraction) .none kVd2 dcd2 pmd2 and2 cdd2 ctd2), sld2⟩)
    (cd2 : PySem.W.codeIn K cdd2 "fraction" = true)
    (kd2 : PySem.W.keepIn K (.ref fd2) = true)
    (ad3 : PySem.W.nsIn K mainGlobals "greatest_mean" = some (some (.ref fd3)))
    (ld3 : K.lookup fd3 = some ⟨ocd3, odd3, .func (PySem.W.fnOf "greatest_mean" "greatest_mean" (defArgs s_greatest_mean) (defBody s_greatest_mean) (defScope s_greatest_mean) .none kVd3 dcd3 pmd3 and3 cdd3 ctd3), sld3⟩)
    (cd3 : PySem.W.codeIn K cdd3 "greatest_mean" = true)
    (kd3 : PySem.W.keepIn K (.ref fd3) = true)
    (ad4 : PySem.W.nsIn K mainGlobals "excess" = some (some (.ref fd4)))
    (ld4 : K.lookup fd4 = some ⟨ocd4, odd4, .func (PySem.W.fnOf "excess" "excess" (defArgs s_excess) (defBody s_excess) (defScope s_excess) .none kVd4 dcd4 pmd4 and4 cdd4 ctd4), sld4⟩)
    (cd4 : PySem.W.codeIn K cdd4 "excess" = true)
    (kd4 : PySem.W.keepIn K (.ref fd4) = true)
    (ad5 : PySem.W.nsIn K mainGlobals "tight_part" = some (some (.ref fd5)))
    (ld5 : K.lookup fd5 = some ⟨ocd5, odd5, .func (PySem.W.fnOf "tight_part" "tight_part" (defArgs s_tight_part) (defBody s_tight_part) (defScope s_tight_part) .none kVd5 dcd5 pmd5 and5 cdd5 ctd5), sld5⟩)
    (cd5 : PySem.W.codeIn K cdd5 "tight_part" = true)
    (kd5 : PySem.W.keepIn K (.ref fd5) = true)
    (ad6 : PySem.W.nsIn K mainGlobals "smallest_cycle" = some (some (.ref fd6)))
    (ld6 : K.lookup fd6 = some ⟨ocd6, odd6, .func (PySem.W.fnOf "smallest_cycle" "smallest_cycle" (defArgs s_smallest_cycle) (defBody s_smallest_cycle) (defScope s_smallest_cycle) .none kVd6 dcd6 pmd6 and6 cdd6 ctd6), sld6⟩)
    (cd6 : PySem.W.codeIn K cdd6 "smallest_cycle" = true)
    (kd6 : PySem.W.keepIn K (.ref fd6) = true)
    (ad7 : PySem.W.nsIn K mainGlobals "_settled" = some (some (.ref fd7)))
    (ld7 : K.lookup fd7 = some ⟨ocd7, odd7, .func (PySem.W.fnOf "_settled" "_settled" (defArgs s_settled) (defBody s_settled) (defScope s_settled) .none kVd7 dcd7 pmd7 and7 cdd7 ctd7), sld7⟩)
    (cd7 : PySem.W.codeIn K cdd7 "_settled" = true)
    (kd7 : PySem.W.keepIn K (.ref fd7) = true)
    (ad8 : PySem.W.nsIn K mainGlobals "_raise_prices" = some (some (.ref fd8)))
    (ld8 : K.lookup fd8 = some ⟨ocd8, odd8, .func (PySem.W.fnOf "_raise_prices" "_raise_prices" (defArgs s_raise_prices) (defBody s_raise_prices) (defScope s_raise_prices) .none kVd8 dcd8 pmd8 and8 cdd8 ctd8), sld8⟩)
    (cd8 : PySem.W.codeIn K cdd8 "_raise_prices" = true)
    (kd8 : PySem.W.keepIn K (.ref fd8) = true)
    (ad9 : PySem.W.nsIn K mainGlobals "_cycle_of" = some (some (.ref fd9)))
    (ld9 : K.lookup fd9 = some ⟨ocd9, odd9, .func (PySem.W.fnOf "_cycle_of" "_cycle_of" (defArgs s_cycle_of) (defBody s_cycle_of) (defScope s_cycle_of) .none kVd9 dcd9 pmd9 and9 cdd9 ctd9), sld9⟩)
    (cd9 : PySem.W.codeIn K cdd9 "_cycle_of" = true)
    (kd9 : PySem.W.keepIn K (.ref fd9) = true)
    (ad10 : PySem.W.nsIn K mainGlobals "_measured" = some (some (.ref fd10)))
    (ld10 : K.lookup fd10 = some ⟨ocd10, odd10, .func (PySem.W.fnOf "_measured" "_measured" (defArgs s_measured) (defBody s_measured) (defScope s_measured) .none kVd10 dcd10 pmd10 and10 cdd10 ctd10), sld10⟩)
    (cd10 : PySem.W.codeIn K cdd10 "_measured" = true)
    (kd10 : PySem.W.keepIn K (.ref fd10) = true)
    (ad11 : PySem.W.nsIn K mainGlobals "_sources" = some (some (.ref fd11)))
    (ld11 : K.lookup fd11 = some ⟨ocd11, odd11, .func (PySem.W.fnOf "_sources" "_sources" (defArgs s_sources) (defBody s_sources) (defScope s_sources) .none kVd11 dcd11 pmd11 and11 cdd11 ctd11), sld11⟩)
    (cd11 : PySem.W.codeIn K cdd11 "_sources" = true)
    (kd11 : PySem.W.keepIn K (.ref fd11) = true)
    (ad12 : PySem.W.nsIn K mainGlobals "_steps_to" = some (some (.ref fd12)))
    (ld12 : K.lookup fd12 = some ⟨ocd12, odd12, .func (PySem.W.fnOf "_steps_to" "_steps_to" (defArgs s_steps_to) (defBody s_steps_to) (defScope s_steps_to) .none kVd12 dcd12 pmd12 and12 cdd12 ctd12), sld12⟩)
    (cd12 : PySem.W.codeIn K cdd12 "_steps_to" = true)
    (kd12 : PySem.W.keepIn K (.ref fd12) = true)
    (ad13 : PySem.W.nsIn K mainGlobals "_labels_round" = some (some (.ref fd13)))
    (ld13 : K.lookup fd13 = some ⟨ocd13, odd13, .func (PySem.W.fnOf "_labels_round" "_labels_round" (defArgs s_labels_round) (defBody s_labels_round) (defScope s_labels_round) .none kVd13 dcd13 pmd13 and13 cdd13 ctd13), sld13⟩)
    (cd13 : PySem.W.codeIn K cdd13 "_labels_round" = true)
    (kd13 : PySem.W.keepIn K (.ref fd13) = true)
    (ad14 : PySem.W.nsIn K mainGlobals "is_work" = some (some (.ref fd14)))
    (ld14 : K.lookup fd14 = some ⟨ocd14, odd14, .func (PySem.W.fnOf "is_work" "is_work" (defArgs s_is_work) (defBody s_is_work) (defScope s_is_work) .none kVd14 dcd14 pmd14 and14 cdd14 ctd14), sld14⟩)
    (cd14 : PySem.W.codeIn K cdd14 "is_work" = true)
    (kd14 : PySem.W.keepIn K (.ref fd14) = true)
    (ad15 : PySem.W.nsIn K mainGlobals "bars" = some (some (.ref fd15)))
    (ld15 : K.lookup fd15 = some ⟨ocd15, odd15, .func (PySem.W.fnOf "bars" "bars" (defArgs s_bars) (defBody s_bars) (defScope s_bars) .none kVd15 dcd15 pmd15 and15 cdd15 ctd15), sld15⟩)
    (cd15 : PySem.W.codeIn K cdd15 "bars" = true)
    (kd15 : PySem.W.keepIn K (.ref fd15) = true)
    (ad16 : PySem.W.nsIn K mainGlobals "require_work" = some (some (.ref fd16)))
    (ld16 : K.lookup fd16 = some ⟨ocd16, odd16, .func (PySem.W.fnOf "require_work" "require_work" (defArgs s_require_work) (defBody s_require_work) (defScope s_require_work) .none kVd16 dcd16 pmd16 and16 cdd16 ctd16), sld16⟩)
    (cd16 : PySem.W.codeIn K cdd16 "require_work" = true)
    (kd16 : PySem.W.keepIn K (.ref fd16) = true)
    (ad17 : PySem.W.nsIn K mainGlobals "_clashes_behind" = some (some (.ref fd17)))
    (ld17 : K.lookup fd17 = some ⟨ocd17, odd17, .func (PySem.W.fnOf "_clashes_behind" "_clashes_behind" (defArgs s_clashes_behind) (defBody s_clashes_behind) (defScope s_clashes_behind) .none kVd17 dcd17 pmd17 and17 cdd17 ctd17), sld17⟩)
    (cd17 : PySem.W.codeIn K cdd17 "_clashes_behind" = true)
    (kd17 : PySem.W.keepIn K (.ref fd17) = true)
    (ad18 : PySem.W.nsIn K mainGlobals "is_kind" = some (some (.ref fd18)))
    (ld18 : K.lookup fd18 = some ⟨ocd18, odd18, .func (PySem.W.fnOf "is_kind" "is_kind" (defArgs s_is_kind) (defBody s_is_kind) (defScope s_is_kind) .none kVd18 dcd18 pmd18 and18 cdd18 ctd18), sld18⟩)
    (cd18 : PySem.W.codeIn K cdd18 "is_kind" = true)
    (kd18 : PySem.W.keepIn K (.ref fd18) = true)
    (ad19 : PySem.W.nsIn K mainGlobals "require_kind" = some (some (.ref fd19)))
    (ld19 : K.lookup fd19 = some ⟨ocd19, odd19, .func (PySem.W.fnOf "require_kind" "require_kind" (defArgs s_require_kind) (defBody s_require_kind) (defScope s_require_kind) .none kVd19 dcd19 pmd19 and19 cdd19 ctd19), sld19⟩)
    (cd19 : PySem.W.codeIn K cdd19 "require_kind" = true)
    (kd19 : PySem.W.keepIn K (.ref fd19) = true)
    (ad20 : PySem.W.nsIn K mainGlobals "_bars_of_all" = some (some (.ref fd20)))
    (ld20 : K.lookup fd20 = some ⟨ocd20, odd20, .func (PySem.W.fnOf "_bars_of_all" "_bars_of_all" (defArgs s_bars_of_all) (defBody s_bars_of_all) (defScope s_bars_of_all) .none kVd20 dcd20 pmd20 and20 cdd20 ctd20), sld20⟩)
    (cd20 : PySem.W.codeIn K cdd20 "_bars_of_all" = true)
    (kd20 : PySem.W.keepIn K (.ref fd20) = true)
    (ad21 : PySem.W.nsIn K mainGlobals "require_line" = some (some (.ref fd21)))
    (ld21 : K.lookup fd21 = some ⟨ocd21, odd21, .func (PySem.W.fnOf "require_line" "require_line" (defArgs s_require_line) (defBody s_require_line) (defScope s_require_line) .none kVd21 dcd21 pmd21 and21 cdd21 ctd21), sld21⟩)
    (cd21 : PySem.W.codeIn K cdd21 "require_line" = true)
    (kd21 : PySem.W.keepIn K (.ref fd21) = true)
    (ad22 : PySem.W.nsIn K mainGlobals "numbered_moves" = some (some (.ref fd22)))
    (ld22 : K.lookup fd22 = some ⟨ocd22, odd22, .func (PySem.W.fnOf "numbered_moves" "numbered_moves" (defArgs s_numbered_moves) (defBody s_numbered_moves) (defScope s_numbered_moves) .none kVd22 dcd22 pmd22 and22 cdd22 ctd22), sld22⟩)
    (cd22 : PySem.W.codeIn K cdd22 "numbered_moves" = true)
    (kd22 : PySem.W.keepIn K (.ref fd22) = true)
    (ad23 : PySem.W.nsIn K mainGlobals "require_near" = some (some (.ref fd23)))
    (ld23 : K.lookup fd23 = some ⟨ocd23, odd23, .func (PySem.W.fnOf "require_near" "require_near" (defArgs s_require_near) (defBody s_require_near) (defScope s_require_near) (.ref Dd23) kVd23 dcd23 pmd23 and23 cdd23 ctd23), sld23⟩)
    (D_d23 : K.lookup Dd23 = some ⟨ocDd23, odDd23, .seq #[.int 8 tDd23_0, .int 5 tDd23_1] nDd23, slDd23⟩)
    (cd23 : PySem.W.codeIn K cdd23 "require_near" = true)
    (kd23 : PySem.W.keepIn K (.ref fd23) = true)
    (ad24 : PySem.W.nsIn K mainGlobals "_empty_state" = some (some (.ref fd24)))
    (ld24 : K.lookup fd24 = some ⟨ocd24, odd24, .func (PySem.W.fnOf "_empty_state" "_empty_state" (defArgs s_empty_state) (defBody s_empty_state) (defScope s_empty_state) .none kVd24 dcd24 pmd24 and24 cdd24 ctd24), sld24⟩)
    (cd24 : PySem.W.codeIn K cdd24 "_empty_state" = true)
    (kd24 : PySem.W.keepIn K (.ref fd24) = true)
    (ad25 : PySem.W.nsIn K mainGlobals "_open_choices" = some (some (.ref fd25)))
    (ld25 : K.lookup fd25 = some ⟨ocd25, odd25, .func (PySem.W.fnOf "_open_choices" "_open_choices" (defArgs s_open_choices) (defBody s_open_choices) (defScope s_open_choices) .none kVd25 dcd25 pmd25 and25 cdd25 ctd25), sld25⟩)
    (cd25 : PySem.W.codeIn K cdd25 "_open_choices" = true)
    (kd25 : PySem.W.keepIn K (.ref fd25) = true)
    (ad26 : PySem.W.nsIn K mainGlobals "_behind" = some (some (.ref fd26)))
    (ld26 : K.lookup fd26 = some ⟨ocd26, odd26, .func (PySem.W.fnOf "_behind" "_behind" (defArgs s_behind) (defBody s_behind) (defScope s_behind) .none kVd26 dcd26 pmd26 and26 cdd26 ctd26), sld26⟩)
    (cd26 : PySem.W.codeIn K cdd26 "_behind" = true)
    (kd26 : PySem.W.keepIn K (.ref fd26) = true)
    (ad27 : PySem.W.nsIn K mainGlobals "_delays" = some (some (.ref fd27)))
    (ld27 : K.lookup fd27 = some ⟨ocd27, odd27, .func (PySem.W.fnOf "_delays" "_delays" (defArgs s_delays) (defBody s_delays) (defScope s_delays) .none kVd27 dcd27 pmd27 and27 cdd27 ctd27), sld27⟩)
    (cd27 : PySem.W.codeIn K cdd27 "_delays" = true)
    (kd27 : PySem.W.keepIn K (.ref fd27) = true)
    (ad28 : PySem.W.nsIn K mainGlobals "_ascending" = some (some (.ref fd28)))
    (ld28 : K.lookup fd28 = some ⟨ocd28, odd28, .func (PySem.W.fnOf "_ascending" "_ascending" (defArgs s_ascending) (defBody s_ascending) (defScope s_ascending) .none kVd28 dcd28 pmd28 and28 cdd28 ctd28), sld28⟩)
    (cd28 : PySem.W.codeIn K cdd28 "_ascending" = true)
    (kd28 : PySem.W.keepIn K (.ref fd28) = true)
    (ad29 : PySem.W.nsIn K mainGlobals "_moves" = some (some (.ref fd29)))
    (ld29 : K.lookup fd29 = some ⟨ocd29, odd29, .func (PySem.W.fnOf "_moves" "_moves" (defArgs s_moves) (defBody s_moves) (defScope s_moves) .none kVd29 dcd29 pmd29 and29 cdd29 ctd29), sld29⟩)
    (cd29 : PySem.W.codeIn K cdd29 "_moves" = true)
    (kd29 : PySem.W.keepIn K (.ref fd29) = true)
    (ad30 : PySem.W.nsIn K mainGlobals "worth_of" = some (some (.ref fd30)))
    (ld30 : K.lookup fd30 = some ⟨ocd30, odd30, .func (PySem.W.fnOf "worth_of" "worth_of" (defArgs s_worth_of) (defBody s_worth_of) (defScope s_worth_of) .none kVd30 dcd30 pmd30 and30 cdd30 ctd30), sld30⟩)
    (cd30 : PySem.W.codeIn K cdd30 "worth_of" = true)
    (kd30 : PySem.W.keepIn K (.ref fd30) = true)
    (ad31 : PySem.W.nsIn K mainGlobals "require_worths" = some (some (.ref fd31)))
    (ld31 : K.lookup fd31 = some ⟨ocd31, odd31, .func (PySem.W.fnOf "require_worths" "require_worths" (defArgs s_require_worths) (defBody s_require_worths) (defScope s_require_worths) .none kVd31 dcd31 pmd31 and31 cdd31 ctd31), sld31⟩)
    (cd31 : PySem.W.codeIn K cdd31 "require_worths" = true)
    (kd31 : PySem.W.keepIn K (.ref fd31) = true)
    (ad32 : PySem.W.nsIn K mainGlobals "_is_worths" = some (some (.ref fd32)))
    (ld32 : K.lookup fd32 = some ⟨ocd32, odd32, .func (PySem.W.fnOf "_is_worths" "_is_worths" (defArgs s_is_worths) (defBody s_is_worths) (defScope s_is_worths) .none kVd32 dcd32 pmd32 and32 cdd32 ctd32), sld32⟩)
    (cd32 : PySem.W.codeIn K cdd32 "_is_worths" = true)
    (kd32 : PySem.W.keepIn K (.ref fd32) = true)
    (ad33 : PySem.W.nsIn K mainGlobals "best" = some (some (.ref fd33)))
    (ld33 : K.lookup fd33 = some ⟨ocd33, odd33, .func (PySem.W.fnOf "best" "best" (defArgs s_best) (defBody s_best) (defScope s_best) .none kVd33 dcd33 pmd33 and33 cdd33 ctd33), sld33⟩)
    (cd33 : PySem.W.codeIn K cdd33 "best" = true)
    (kd33 : PySem.W.keepIn K (.ref fd33) = true)
    (ad34 : PySem.W.nsIn K mainGlobals "weighted" = some (some (.ref fd34)))
    (ld34 : K.lookup fd34 = some ⟨ocd34, odd34, .func (PySem.W.fnOf "weighted" "weighted" (defArgs s_weighted) (defBody s_weighted) (defScope s_weighted) .none kVd34 dcd34 pmd34 and34 cdd34 ctd34), sld34⟩)
    (cd34 : PySem.W.codeIn K cdd34 "weighted" = true)
    (kd34 : PySem.W.keepIn K (.ref fd34) = true)
    (ad35 : PySem.W.nsIn K mainGlobals "_graph" = some (some (.ref fd35)))
    (ld35 : K.lookup fd35 = some ⟨ocd35, odd35, .func (PySem.W.fnOf "_graph" "_graph" (defArgs s_graph) (defBody s_graph) (defScope s_graph) .none kVd35 dcd35 pmd35 and35 cdd35 ctd35), sld35⟩)
    (cd35 : PySem.W.codeIn K cdd35 "_graph" = true)
    (kd35 : PySem.W.keepIn K (.ref fd35) = true)
    (ad36 : PySem.W.nsIn K mainGlobals "gap" = some (some (.ref fd36)))
    (ld36 : K.lookup fd36 = some ⟨ocd36, odd36, .func (PySem.W.fnOf "gap" "gap" (defArgs s_gap) (defBody s_gap) (defScope s_gap) .none kVd36 dcd36 pmd36 and36 cdd36 ctd36), sld36⟩)
    (cd36 : PySem.W.codeIn K cdd36 "gap" = true)
    (kd36 : PySem.W.keepIn K (.ref fd36) = true)
    (ad37 : PySem.W.nsIn K mainGlobals "_law_cell_at" = some (some (.ref fd37)))
    (ld37 : K.lookup fd37 = some ⟨ocd37, odd37, .func (PySem.W.fnOf "_law_cell_at" "_law_cell_at" (defArgs s_l_cell_at) (defBody s_l_cell_at) (defScope s_l_cell_at) .none kVd37 dcd37 pmd37 and37 cdd37 ctd37), sld37⟩)
    (cd37 : PySem.W.codeIn K cdd37 "_law_cell_at" = true)
    (kd37 : PySem.W.keepIn K (.ref fd37) = true)
    (ad38 : PySem.W.nsIn K mainGlobals "_law_pen" = some (some (.ref fd38)))
    (ld38 : K.lookup fd38 = some ⟨ocd38, odd38, .func (PySem.W.fnOf "_law_pen" "_law_pen" (defArgs s_l_pen) (defBody s_l_pen) (defScope s_l_pen) .none kVd38 dcd38 pmd38 and38 cdd38 ctd38), sld38⟩)
    (cd38 : PySem.W.codeIn K cdd38 "_law_pen" = true)
    (kd38 : PySem.W.keepIn K (.ref fd38) = true)
    (ad39 : PySem.W.nsIn K mainGlobals "_law_draw" = some (some (.ref fd39)))
    (ld39 : K.lookup fd39 = some ⟨ocd39, odd39, .func (PySem.W.fnOf "_law_draw" "_law_draw" (defArgs s_l_draw) (defBody s_l_draw) (defScope s_l_draw) .none kVd39 dcd39 pmd39 and39 cdd39 ctd39), sld39⟩)
    (cd39 : PySem.W.codeIn K cdd39 "_law_draw" = true)
    (kd39 : PySem.W.keepIn K (.ref fd39) = true)
    (ad40 : PySem.W.nsIn K mainGlobals "_law_pick" = some (some (.ref fd40)))
    (ld40 : K.lookup fd40 = some ⟨ocd40, odd40, .func (PySem.W.fnOf "_law_pick" "_law_pick" (defArgs s_l_pick) (defBody s_l_pick) (defScope s_l_pick) .none kVd40 dcd40 pmd40 and40 cdd40 ctd40), sld40⟩)
    (cd40 : PySem.W.codeIn K cdd40 "_law_pick" = true)
    (kd40 : PySem.W.keepIn K (.ref fd40) = true)
    (ad41 : PySem.W.nsIn K mainGlobals "_law_same" = some (some (.ref fd41)))
    (ld41 : K.lookup fd41 = some ⟨ocd41, odd41, .func (PySem.W.fnOf "_law_same" "_law_same" (defArgs s_l_same) (defBody s_l_same) (defScope s_l_same) .none kVd41 dcd41 pmd41 and41 cdd41 ctd41), sld41⟩)
    (cd41 : PySem.W.codeIn K cdd41 "_law_same" = true)
    (kd41 : PySem.W.keepIn K (.ref fd41) = true)
    (ad42 : PySem.W.nsIn K mainGlobals "_law_names" = some (some (.ref fd42)))
    (ld42 : K.lookup fd42 = some ⟨ocd42, odd42, .func (PySem.W.fnOf "_law_names" "_law_names" (defArgs s_l_names) (defBody s_l_names) (defScope s_l_names) .none kVd42 dcd42 pmd42 and42 cdd42 ctd42), sld42⟩)
    (cd42 : PySem.W.codeIn K cdd42 "_law_names" = true)
    (kd42 : PySem.W.keepIn K (.ref fd42) = true)
    (ad43 : PySem.W.nsIn K mainGlobals "_law_work" = some (some (.ref fd43)))
    (ld43 : K.lookup fd43 = some ⟨ocd43, odd43, .func (PySem.W.fnOf "_law_work" "_law_work" (defArgs s_l_work) (defBody s_l_work) (defScope s_l_work) .none kVd43 dcd43 pmd43 and43 cdd43 ctd43), sld43⟩)
    (cd43 : PySem.W.codeIn K cdd43 "_law_work" = true)
    (kd43 : PySem.W.keepIn K (.ref fd43) = true)
    (ad44 : PySem.W.nsIn K mainGlobals "_law_between" = some (some (.ref fd44)))
    (ld44 : K.lookup fd44 = some ⟨ocd44, odd44, .func (PySem.W.fnOf "_law_between" "_law_between" (defArgs s_l_between) (defBody s_l_between) (defScope s_l_between) .none kVd44 dcd44 pmd44 and44 cdd44 ctd44), sld44⟩)
    (cd44 : PySem.W.codeIn K cdd44 "_law_between" = true)
    (kd44 : PySem.W.keepIn K (.ref fd44) = true)
    (ad45 : PySem.W.nsIn K mainGlobals "_law_lowest" = some (some (.ref fd45)))
    (ld45 : K.lookup fd45 = some ⟨ocd45, odd45, .func (PySem.W.fnOf "_law_lowest" "_law_lowest" (defArgs s_l_lowest) (defBody s_l_lowest) (defScope s_l_lowest) .none kVd45 dcd45 pmd45 and45 cdd45 ctd45), sld45⟩)
    (cd45 : PySem.W.codeIn K cdd45 "_law_lowest" = true)
    (kd45 : PySem.W.keepIn K (.ref fd45) = true)
    (ad46 : PySem.W.nsIn K mainGlobals "_law_masks" = some (some (.ref fd46)))
    (ld46 : K.lookup fd46 = some ⟨ocd46, odd46, .func (PySem.W.fnOf "_law_masks" "_law_masks" (defArgs s_l_masks) (defBody s_l_masks) (defScope s_l_masks) .none kVd46 dcd46 pmd46 and46 cdd46 ctd46), sld46⟩)
    (cd46 : PySem.W.codeIn K cdd46 "_law_masks" = true)
    (kd46 : PySem.W.keepIn K (.ref fd46) = true)
    (ad47 : PySem.W.nsIn K mainGlobals "_law_rows" = some (some (.ref fd47)))
    (ld47 : K.lookup fd47 = some ⟨ocd47, odd47, .func (PySem.W.fnOf "_law_rows" "_law_rows" (defArgs s_l_rows) (defBody s_l_rows) (defScope s_l_rows) .none kVd47 dcd47 pmd47 and47 cdd47 ctd47), sld47⟩)
    (cd47 : PySem.W.codeIn K cdd47 "_law_rows" = true)
    (kd47 : PySem.W.keepIn K (.ref fd47) = true)
    (ad48 : PySem.W.nsIn K mainGlobals "_law_gap" = some (some (.ref fd48)))
    (ld48 : K.lookup fd48 = some ⟨ocd48, odd48, .func (PySem.W.fnOf "_law_gap" "_law_gap" (defArgs s_l_gap) (defBody s_l_gap) (defScope s_l_gap) .none kVd48 dcd48 pmd48 and48 cdd48 ctd48), sld48⟩)
    (cd48 : PySem.W.codeIn K cdd48 "_law_gap" = true)
    (kd48 : PySem.W.keepIn K (.ref fd48) = true)
    (ad49 : PySem.W.nsIn K mainGlobals "_law_single" = some (some (.ref fd49)))
    (ld49 : K.lookup fd49 = some ⟨ocd49, odd49, .func (PySem.W.fnOf "_law_single" "_law_single" (defArgs s_l_single) (defBody s_l_single) (defScope s_l_single) .none kVd49 dcd49 pmd49 and49 cdd49 ctd49), sld49⟩)
    (cd49 : PySem.W.codeIn K cdd49 "_law_single" = true)
    (kd49 : PySem.W.keepIn K (.ref fd49) = true)
    (ad50 : PySem.W.nsIn K mainGlobals "law" = some (some (.ref fd50)))
    (ld50 : K.lookup fd50 = some ⟨ocd50, odd50, .func (PySem.W.fnOf "law" "law" (defArgs s_law) (defBody s_law) (defScope s_law) .none kVd50 dcd50 pmd50 and50 cdd50 ctd50), sld50⟩)
    (cd50 : PySem.W.codeIn K cdd50 "law" = true)
    (kd50 : PySem.W.keepIn K (.ref fd50) = true)
    (aC : PySem.W.nsIn K mainGlobals "Line" = some (some (.ref C)))
    (am0 : PySem.W.findIn K (.ref C) "__init__" = some (some (.ref fm0)))
    (im0 : PySem.W.isFn K (.ref fm0) = true)
    (lm0 : K.lookup fm0 = some ⟨ocm0, odm0, .func (PySem.W.fnOf "__init__" "Line.__init__" (defArgs s_Line_init) (defBody s_Line_init) (defScope s_Line_init) .none kVm0 dcm0 pmm0 anm0 cdm0 ctm0), slm0⟩)
    (cm0 : PySem.W.codeIn K cdm0 "Line.__init__" = true)
    (km0 : PySem.W.keepIn K (.ref fm0) = true)
    (am1 : PySem.W.findIn K (.ref C) "__len__" = some (some (.ref fm1)))
    (im1 : PySem.W.isFn K (.ref fm1) = true)
    (lm1 : K.lookup fm1 = some ⟨ocm1, odm1, .func (PySem.W.fnOf "__len__" "Line.__len__" (defArgs s_Line_len) (defBody s_Line_len) (defScope s_Line_len) .none kVm1 dcm1 pmm1 anm1 cdm1 ctm1), slm1⟩)
    (cm1 : PySem.W.codeIn K cdm1 "Line.__len__" = true)
    (km1 : PySem.W.keepIn K (.ref fm1) = true)
    (am2 : PySem.W.findIn K (.ref C) "__call__" = some (some (.ref fm2)))
    (im2 : PySem.W.isFn K (.ref fm2) = true)
    (lm2 : K.lookup fm2 = some ⟨ocm2, odm2, .func (PySem.W.fnOf "__call__" "Line.__call__" (defArgs s_Line_call) (defBody s_Line_call) (defScope s_Line_call) .none kVm2 dcm2 pmm2 anm2 cdm2 ctm2), slm2⟩)
    (cm2 : PySem.W.codeIn K cdm2 "Line.__call__" = true)
    (km2 : PySem.W.keepIn K (.ref fm2) = true)
    (am3 : PySem.W.findIn K (.ref C) "__add__" = some (some (.ref fm3)))
    (im3 : PySem.W.isFn K (.ref fm3) = true)
    (lm3 : K.lookup fm3 = some ⟨ocm3, odm3, .func (PySem.W.fnOf "__add__" "Line.__add__" (defArgs s_Line_add) (defBody s_Line_add) (defScope s_Line_add) .none kVm3 dcm3 pmm3 anm3 cdm3 ctm3), slm3⟩)
    (cm3 : PySem.W.codeIn K cdm3 "Line.__add__" = true)
    (km3 : PySem.W.keepIn K (.ref fm3) = true)
    (am4 : PySem.W.findIn K (.ref C) "__sub__" = some (some (.ref fm4)))
    (im4 : PySem.W.isFn K (.ref fm4) = true)
    (lm4 : K.lookup fm4 = some ⟨ocm4, odm4, .func (PySem.W.fnOf "__sub__" "Line.__sub__" (defArgs s_Line_sub) (defBody s_Line_sub) (defScope s_Line_sub) .none kVm4 dcm4 pmm4 anm4 cdm4 ctm4), slm4⟩)
    (cm4 : PySem.W.codeIn K cdm4 "Line.__sub__" = true)
    (km4 : PySem.W.keepIn K (.ref fm4) = true)
    (am5 : PySem.W.findIn K (.ref C) "__neg__" = some (some (.ref fm5)))
    (im5 : PySem.W.isFn K (.ref fm5) = true)
    (lm5 : K.lookup fm5 = some ⟨ocm5, odm5, .func (PySem.W.fnOf "__neg__" "Line.__neg__" (defArgs s_Line_neg) (defBody s_Line_neg) (defScope s_Line_neg) .none kVm5 dcm5 pmm5 anm5 cdm5 ctm5), slm5⟩)
    (cm5 : PySem.W.codeIn K cdm5 "Line.__neg__" = true)
    (km5 : PySem.W.keepIn K (.ref fm5) = true)
    (am6 : PySem.W.findIn K (.ref C) "__eq__" = some (some (.ref fm6)))
    (im6 : PySem.W.isFn K (.ref fm6) = true)
    (lm6 : K.lookup fm6 = some ⟨ocm6, odm6, .func (PySem.W.fnOf "__eq__" "Line.__eq__" (defArgs s_Line_eq) (defBody s_Line_eq) (defScope s_Line_eq) .none kVm6 dcm6 pmm6 anm6 cdm6 ctm6), slm6⟩)
    (cm6 : PySem.W.codeIn K cdm6 "Line.__eq__" = true)
    (km6 : PySem.W.keepIn K (.ref fm6) = true)
    (am7 : PySem.W.findIn K (.ref C) "__getitem__" = some (some (.ref fm7)))
    (im7 : PySem.W.isFn K (.ref fm7) = true)
    (lm7 : K.lookup fm7 = some ⟨ocm7, odm7, .func (PySem.W.fnOf "__getitem__" "Line.__getitem__" (defArgs s_Line_getitem) (defBody s_Line_getitem) (defScope s_Line_getitem) .none kVm7 dcm7 pmm7 anm7 cdm7 ctm7), slm7⟩)
    (cm7 : PySem.W.codeIn K cdm7 "Line.__getitem__" = true)
    (km7 : PySem.W.keepIn K (.ref fm7) = true)
    (am8 : PySem.W.findIn K (.ref C) "__repr__" = some (some (.ref fm8)))
    (im8 : PySem.W.isFn K (.ref fm8) = true)
    (lm8 : K.lookup fm8 = some ⟨ocm8, odm8, .func (PySem.W.fnOf "__repr__" "Line.__repr__" (defArgs s_Line_repr) (defBody s_Line_repr) (defScope s_Line_repr) .none kVm8 dcm8 pmm8 anm8 cdm8 ctm8), slm8⟩)
    (cm8 : PySem.W.codeIn K cdm8 "Line.__repr__" = true)
    (km8 : PySem.W.keepIn K (.ref fm8) = true)
    (ap0 : PySem.W.findIn K (.ref C) "works" = some (some (.ref pp0)))
    (gp0 : PySem.W.specialIn K (.ref pp0) "__get__" = some (some (.builtin "property.__get__")))
    (tp0 : PySem.W.takesIn K (.ref pp0) = some true)
    (rp0 : PySem.W.recIn K pp0 "property" = some (.ref fp0 :: rsp0))
    (lp0 : K.lookup fp0 = some ⟨ocp0, odp0, .func (PySem.W.fnOf "works" "Line.works" (defArgs s_Line_works) (defBody s_Line_works) (defScope s_Line_works) .none kVp0 dcp0 pmp0 anp0 cdp0 ctp0), slp0⟩)
    (cp0 : PySem.W.codeIn K cdp0 "Line.works" = true)
    (kp0 : PySem.W.keepIn K (.ref fp0) = true)
    (ap1 : PySem.W.findIn K (.ref C) "reach" = some (some (.ref pp1)))
    (gp1 : PySem.W.specialIn K (.ref pp1) "__get__" = some (some (.builtin "property.__get__")))
    (tp1 : PySem.W.takesIn K (.ref pp1) = some true)
    (rp1 : PySem.W.recIn K pp1 "property" = some (.ref fp1 :: rsp1))
    (lp1 : K.lookup fp1 = some ⟨ocp1, odp1, .func (PySem.W.fnOf "reach" "Line.reach" (defArgs s_Line_reach) (defBody s_Line_reach) (defScope s_Line_reach) .none kVp1 dcp1 pmp1 anp1 cdp1 ctp1), slp1⟩)
    (cp1 : PySem.W.codeIn K cdp1 "Line.reach" = true)
    (kp1 : PySem.W.keepIn K (.ref fp1) = true)
    (pg : PySem.W.plainGet K C Str.empty = true)
    (hd : PySem.W.hasDictIn K C = true)
    (po : PySem.W.plainOver K C = true)
    (sa : PySem.W.findIn K (.ref C) "__setattr__" = some (some (.builtin "object.__setattr__")))
    (mk : PySem.W.makesIn K C = true)
    (kc : PySem.W.keepIn K (.ref C) = true)
    (nW : PySem.W.findIn K (.ref C) "_works" = some none)
    (nB : PySem.W.findIn K (.ref C) "_bars" = some none)
    (nR : PySem.W.findIn K (.ref C) "_reach" = some none)
    (ha : PySem.W.findIn K (.ref C) "__class__" = some (some (.builtin "object.__class__")))
    (hn : PySem.W.specialIn K (.builtin "object.__class__") "__get__" = some (some (.builtin "getset_descriptor.__get__")))
    (ht : PySem.W.takesIn K (.builtin "object.__class__") = some true)
    (hm : PySem.W.mroIn K C (.type "object") = some true)
    (sf : PySem.W.selfFirst K C = true)
    (rs : PySem.W.findIn K (.ref C) "__rsub__" = some none)
    (is1 : PySem.W.findIn K (.type "int") "__sub__" = some fo)
    (ir1 : PySem.W.findIn K (.type "int") "__rsub__" = some ro)
    (nsub : PySem.W.subIn K (.type "int") (.ref C) = some false)
    (ne : PySem.W.findIn K (.ref C) "__ne__" = some (some (.builtin "object.__ne__")))
    (ob : PySem.W.subIn K (.ref C) (.type "object") = some true)
    (fi : PySem.W.fnIn K fm2 = true)
    (fg : PySem.W.fnIn K fm7 = true)
    (xgcd : PySem.W.nsIn K mainGlobals "gcd" = some (some (.builtin "math.gcd")))
    (z_isinstance : PySem.W.nsIn K mainGlobals "isinstance" = some none)
    (z_int : PySem.W.nsIn K mainGlobals "int" = some none)
    (z_bool : PySem.W.nsIn K mainGlobals "bool" = some none)
    (z_tuple : PySem.W.nsIn K mainGlobals "tuple" = some none)
    (z_len : PySem.W.nsIn K mainGlobals "len" = some none)
    (z_all : PySem.W.nsIn K mainGlobals "all" = some none)
    (z_any : PySem.W.nsIn K mainGlobals "any" = some none)
    (z_zip : PySem.W.nsIn K mainGlobals "zip" = some none)
    (z_range : PySem.W.nsIn K mainGlobals "range" = some none)
    (z_max : PySem.W.nsIn K mainGlobals "max" = some none)
    (z_min : PySem.W.nsIn K mainGlobals "min" = some none)
    (z_enumerate : PySem.W.nsIn K mainGlobals "enumerate" = some none)
    (z_sorted : PySem.W.nsIn K mainGlobals "sorted" = some none)
    (z_set : PySem.W.nsIn K mainGlobals "set" = some none)
    (z_list : PySem.W.nsIn K mainGlobals "list" = some none)
    (z_sum : PySem.W.nsIn K mainGlobals "sum" = some none)
    (z_repr : PySem.W.nsIn K mainGlobals "repr" = some none)
    (u_NOWHERE : PySem.W.nsIn K mainGlobals "NOWHERE" = some (some (.int (-1) tu_NOWHERE)))
    (u_STATIONS : PySem.W.nsIn K mainGlobals "STATIONS" = some (some (.int (10) tu_STATIONS)))
    (u_MOST_ITEMS : PySem.W.nsIn K mainGlobals "MOST_ITEMS" = some (some (.int (60) tu_MOST_ITEMS)))
    (u_MOST_WORKS : PySem.W.nsIn K mainGlobals "MOST_WORKS" = some (some (.int (3) tu_MOST_WORKS)))
    (u_NOTHING : PySem.W.nsIn K mainGlobals "NOTHING" = some (some (.int (-1) tu_NOTHING)))
    (u_MOST_WORTH : PySem.W.nsIn K mainGlobals "MOST_WORTH" = some (some (.int (20) tu_MOST_WORTH))) :
    ∃ fd : FuncData, (∀ (s : Shared) (v : Value), BindsTo s fd ⟨[v], []⟩ [("_law_script", v)]) ∧ ∀ base : Heap, K.In base → base.Ns mainGlobals mg → FnG l.prog w K mg base 21 fa fd ["_law_script"] (spLaw K) := by
  have e := hfa.symm.trans (PySem.W.mg_of X G ad50)
  cases e
  have y_isinstance := PySem.W.mg_none_of X G z_isinstance
  have y_int := PySem.W.mg_none_of X G z_int
  have y_bool := PySem.W.mg_none_of X G z_bool
  have y_tuple := PySem.W.mg_none_of X G z_tuple
  have y_len := PySem.W.mg_none_of X G z_len
  have y_all := PySem.W.mg_none_of X G z_all
  have y_any := PySem.W.mg_none_of X G z_any
  have y_zip := PySem.W.mg_none_of X G z_zip
  have y_range := PySem.W.mg_none_of X G z_range
  have y_max := PySem.W.mg_none_of X G z_max
  have y_min := PySem.W.mg_none_of X G z_min
  have y_enumerate := PySem.W.mg_none_of X G z_enumerate
  have y_sorted := PySem.W.mg_none_of X G z_sorted
  have y_set := PySem.W.mg_none_of X G z_set
  have y_list := PySem.W.mg_none_of X G z_list
  have y_sum := PySem.W.mg_none_of X G z_sum
  have y_repr := PySem.W.mg_none_of X G z_repr
  have Fd0 := fun_mk (st := s_is_int) ld0 cd0 kd0
  have bd0 := Fd0.binds (ps := ["thing"]) fun _ _ _ _ _ _ us hl => match us, hl with | [_], _ => rfl
  have vd0 := PySem.W.mg_of X G ad0
  have Fd1 := fun_mk (st := s_is_between) ld1 cd1 kd1
  have bd1 := Fd1.binds (ps := ["thing", "least", "most"]) fun _ _ _ _ _ _ us hl => match us, hl with | [_, _, _], _ => rfl
  have vd1 := PySem.W.mg_of X G ad1
  have Fd2 := fun_mk (st := s_fraction) ld2 cd2 kd2
  have bd2 := Fd2.binds (ps := ["top", "bottom"]) fun _ _ _ _ _ _ us hl => match us, hl with | [_, _], _ => rfl
  have vd2 := PySem.W.mg_of X G ad2
  have Fd3 := fun_mk (st := s_greatest_mean) ld3 cd3 kd3
  have bd3 := Fd3.binds (ps := ["graph"]) fun _ _ _ _ _ _ us hl => match us, hl with | [_], _ => rfl
  have vd3 := PySem.W.mg_of X G ad3
  have Fd4 := fun_mk (st := s_excess) ld4 cd4 kd4
  have bd4 := Fd4.binds (ps := ["edge", "highest", "before", "behind"]) fun _ _ _ _ _ _ us hl => match us, hl with | [_, _, _, _], _ => rfl
  have vd4 := PySem.W.mg_of X G ad4
  have Fd5 := fun_mk (st := s_tight_part) ld5 cd5 kd5
  have bd5 := Fd5.binds (ps := ["graph", "highest", "prices"]) fun _ _ _ _ _ _ us hl => match us, hl with | [_, _, _], _ => rfl
  have vd5 := PySem.W.mg_of X G ad5
  have Fd6 := fun_mk (st := s_smallest_cycle) ld6 cd6 kd6
  have bd6 := Fd6.binds (ps := ["graph"]) fun _ _ _ _ _ _ us hl => match us, hl with | [_], _ => rfl
  have vd6 := PySem.W.mg_of X G ad6
  have Fd7 := fun_mk (st := s_settled) ld7 cd7 kd7
  have bd7 := Fd7.binds (ps := ["graph", "highest"]) fun _ _ _ _ _ _ us hl => match us, hl with | [_, _], _ => rfl
  have vd7 := PySem.W.mg_of X G ad7
  have Fd8 := fun_mk (st := s_raise_prices) ld8 cd8 kd8
  have bd8 := Fd8.binds (ps := ["graph", "highest", "prices", "came_by"]) fun _ _ _ _ _ _ us hl => match us, hl with | [_, _, _, _], _ => rfl
  have vd8 := PySem.W.mg_of X G ad8
  have Fd9 := fun_mk (st := s_cycle_of) ld9 cd9 kd9
  have bd9 := Fd9.binds (ps := ["came_by"]) fun _ _ _ _ _ _ us hl => match us, hl with | [_], _ => rfl
  have vd9 := PySem.W.mg_of X G ad9
  have Fd10 := fun_mk (st := s_measured) ld10 cd10 kd10
  have bd10 := Fd10.binds (ps := ["came_by", "start"]) fun _ _ _ _ _ _ us hl => match us, hl with | [_, _], _ => rfl
  have vd10 := PySem.W.mg_of X G ad10
  have Fd11 := fun_mk (st := s_sources) ld11 cd11 kd11
  have bd11 := Fd11.binds (ps := ["graph"]) fun _ _ _ _ _ _ us hl => match us, hl with | [_], _ => rfl
  have vd11 := PySem.W.mg_of X G ad11
  have Fd12 := fun_mk (st := s_steps_to) ld12 cd12 kd12
  have bd12 := Fd12.binds (ps := ["sources", "goal", "most"]) fun _ _ _ _ _ _ us hl => match us, hl with | [_, _, _], _ => rfl
  have vd12 := PySem.W.mg_of X G ad12
  have Fd13 := fun_mk (st := s_labels_round) ld13 cd13 kd13
  have bd13 := Fd13.binds (ps := ["graph", "start", "steps"]) fun _ _ _ _ _ _ us hl => match us, hl with | [_, _, _], _ => rfl
  have vd13 := PySem.W.mg_of X G ad13
  have Fd14 := fun_mk (st := s_is_work) ld14 cd14 kd14
  have bd14 := Fd14.binds (ps := ["thing"]) fun _ _ _ _ _ _ us hl => match us, hl with | [_], _ => rfl
  have vd14 := PySem.W.mg_of X G ad14
  have Fd15 := fun_mk (st := s_bars) ld15 cd15 kd15
  have bd15 := Fd15.binds (ps := ["one", "other"]) fun _ _ _ _ _ _ us hl => match us, hl with | [_, _], _ => rfl
  have vd15 := PySem.W.mg_of X G ad15
  have Fd16 := fun_mk (st := s_require_work) ld16 cd16 kd16
  have bd16 := Fd16.binds (ps := ["thing"]) fun _ _ _ _ _ _ us hl => match us, hl with | [_], _ => rfl
  have vd16 := PySem.W.mg_of X G ad16
  have Fd17 := fun_mk (st := s_clashes_behind) ld17 cd17 kd17
  have bd17 := Fd17.binds (ps := ["one", "other", "distance"]) fun _ _ _ _ _ _ us hl => match us, hl with | [_, _, _], _ => rfl
  have vd17 := PySem.W.mg_of X G ad17
  have Fd18 := fun_mk (st := s_is_kind) ld18 cd18 kd18
  have bd18 := Fd18.binds (ps := ["line", "thing"]) fun _ _ _ _ _ _ us hl => match us, hl with | [_, _], _ => rfl
  have vd18 := PySem.W.mg_of X G ad18
  have Fd19 := fun_mk (st := s_require_kind) ld19 cd19 kd19
  have bd19 := Fd19.binds (ps := ["line", "thing"]) fun _ _ _ _ _ _ us hl => match us, hl with | [_, _], _ => rfl
  have vd19 := PySem.W.mg_of X G ad19
  have Fd20 := fun_mk (st := s_bars_of_all) ld20 cd20 kd20
  have bd20 := Fd20.binds (ps := ["works"]) fun _ _ _ _ _ _ us hl => match us, hl with | [_], _ => rfl
  have vd20 := PySem.W.mg_of X G ad20
  have Fd21 := fun_mk (st := s_require_line) ld21 cd21 kd21
  have bd21 := Fd21.binds (ps := ["thing"]) fun _ _ _ _ _ _ us hl => match us, hl with | [_], _ => rfl
  have vd21 := PySem.W.mg_of X G ad21
  have Fd22 := fun_mk (st := s_numbered_moves) ld22 cd22 kd22
  have bd22 := Fd22.binds (ps := ["line"]) fun _ _ _ _ _ _ us hl => match us, hl with | [_], _ => rfl
  have vd22 := PySem.W.mg_of X G ad22
  have Fd23 : FunD K "require_near" "require_near" (defArgs s_require_near) (defBody s_require_near) (defScope s_require_near) [.int 8, .int 5] [] fd23 _ := ⟨⟨_, _, _, _, _, _, _, _, _, _, rfl, ld23, cd23, .inr ⟨(fun z => nomatch z), Dd23, _, [.int 8 tDd23_0, .int 5 tDd23_1], _, rfl, D_d23, rfl, (.cons ⟨_, rfl⟩ (.cons ⟨_, rfl⟩ .nil))⟩, .inl rfl⟩, kd23⟩
  obtain ⟨dsd23, bd23⟩ := FunD.binds1 (ps := ["line", "of_one", "of_several"]) Fd23 1 0 (fun z => nomatch z) rfl fun _ _ _ _ _ _ _ us its h1 h2 => match us, its, h1, h2 with | [_], [_, _], _, _ => ⟨_, rfl, rfl⟩
  have vd23 := PySem.W.mg_of X G ad23
  have Fd24 := fun_mk (st := s_empty_state) ld24 cd24 kd24
  have bd24 := Fd24.binds (ps := ["line"]) fun _ _ _ _ _ _ us hl => match us, hl with | [_], _ => rfl
  have vd24 := PySem.W.mg_of X G ad24
  have Fd25 := fun_mk (st := s_open_choices) ld25 cd25 kd25
  have bd25 := Fd25.binds (ps := ["state"]) fun _ _ _ _ _ _ us hl => match us, hl with | [_], _ => rfl
  have vd25 := PySem.W.mg_of X G ad25
  have Fd26 := fun_mk (st := s_behind) ld26 cd26 kd26
  have bd26 := Fd26.binds (ps := ["line", "state", "choice"]) fun _ _ _ _ _ _ us hl => match us, hl with | [_, _, _], _ => rfl
  have vd26 := PySem.W.mg_of X G ad26
  have Fd27 := fun_mk (st := s_delays) ld27 cd27 kd27
  have bd27 := Fd27.binds (ps := ["line", "started", "kind"]) fun _ _ _ _ _ _ us hl => match us, hl with | [_, _, _], _ => rfl
  have vd27 := PySem.W.mg_of X G ad27
  have Fd28 := fun_mk (st := s_ascending) ld28 cd28 kd28
  have bd28 := Fd28.binds (ps := ["numbers"]) fun _ _ _ _ _ _ us hl => match us, hl with | [_], _ => rfl
  have vd28 := PySem.W.mg_of X G ad28
  have Fd29 := fun_mk (st := s_moves) ld29 cd29 kd29
  have bd29 := Fd29.binds (ps := ["line"]) fun _ _ _ _ _ _ us hl => match us, hl with | [_], _ => rfl
  have vd29 := PySem.W.mg_of X G ad29
  have Fd30 := fun_mk (st := s_worth_of) ld30 cd30 kd30
  have bd30 := Fd30.binds (ps := ["worths", "choice"]) fun _ _ _ _ _ _ us hl => match us, hl with | [_, _], _ => rfl
  have vd30 := PySem.W.mg_of X G ad30
  have Fd31 := fun_mk (st := s_require_worths) ld31 cd31 kd31
  have bd31 := Fd31.binds (ps := ["line", "thing"]) fun _ _ _ _ _ _ us hl => match us, hl with | [_, _], _ => rfl
  have vd31 := PySem.W.mg_of X G ad31
  have Fd32 := fun_mk (st := s_is_worths) ld32 cd32 kd32
  have bd32 := Fd32.binds (ps := ["line", "thing"]) fun _ _ _ _ _ _ us hl => match us, hl with | [_, _], _ => rfl
  have vd32 := PySem.W.mg_of X G ad32
  have Fd33 := fun_mk (st := s_best) ld33 cd33 kd33
  have bd33 := Fd33.binds (ps := ["line", "worths"]) fun _ _ _ _ _ _ us hl => match us, hl with | [_, _], _ => rfl
  have vd33 := PySem.W.mg_of X G ad33
  have Fd34 := fun_mk (st := s_weighted) ld34 cd34 kd34
  have bd34 := Fd34.binds (ps := ["moves", "worths"]) fun _ _ _ _ _ _ us hl => match us, hl with | [_, _], _ => rfl
  have vd34 := PySem.W.mg_of X G ad34
  have Fd35 := fun_mk (st := s_graph) ld35 cd35 kd35
  have bd35 := Fd35.binds (ps := ["line", "worths"]) fun _ _ _ _ _ _ us hl => match us, hl with | [_, _], _ => rfl
  have vd35 := PySem.W.mg_of X G ad35
  have Fd36 := fun_mk (st := s_gap) ld36 cd36 kd36
  have bd36 := Fd36.binds (ps := ["work"]) fun _ _ _ _ _ _ us hl => match us, hl with | [_], _ => rfl
  have vd36 := PySem.W.mg_of X G ad36
  have Fd37 := fun_mk (st := s_l_cell_at) ld37 cd37 kd37
  have bd37 := Fd37.binds (ps := ["_law_script", "_law_k"]) fun _ _ _ _ _ _ us hl => match us, hl with | [_, _], _ => rfl
  have vd37 := PySem.W.mg_of X G ad37
  have Fd38 := fun_mk (st := s_l_pen) ld38 cd38 kd38
  have bd38 := Fd38.binds (ps := ["_law_cell"]) fun _ _ _ _ _ _ us hl => match us, hl with | [_], _ => rfl
  have vd38 := PySem.W.mg_of X G ad38
  have Fd39 := fun_mk (st := s_l_draw) ld39 cd39 kd39
  have bd39 := Fd39.binds (ps := ["_law_pen_here", "_law_many"]) fun _ _ _ _ _ _ us hl => match us, hl with | [_, _], _ => rfl
  have vd39 := PySem.W.mg_of X G ad39
  have Fd40 := fun_mk (st := s_l_pick) ld40 cd40 kd40
  have bd40 := Fd40.binds (ps := ["_law_pen_here", "_law_some"]) fun _ _ _ _ _ _ us hl => match us, hl with | [_, _], _ => rfl
  have vd40 := PySem.W.mg_of X G ad40
  have Fd41 := fun_mk (st := s_l_same) ld41 cd41 kd41
  have bd41 := Fd41.binds (ps := ["_law_found", "_law_due"]) fun _ _ _ _ _ _ us hl => match us, hl with | [_, _], _ => rfl
  have vd41 := PySem.W.mg_of X G ad41
  have Fd42 := fun_mk (st := s_l_names) ld42 cd42 kd42
  have bd42 := Fd42.binds (ps := ["_law_pen_here"]) fun _ _ _ _ _ _ us hl => match us, hl with | [_], _ => rfl
  have vd42 := PySem.W.mg_of X G ad42
  have Fd43 := fun_mk (st := s_l_work) ld43 cd43 kd43
  have bd43 := Fd43.binds (ps := ["_law_pen_here", "_law_names_here", "_law_far", "_law_blocks"]) fun _ _ _ _ _ _ us hl => match us, hl with | [_, _, _, _], _ => rfl
  have vd43 := PySem.W.mg_of X G ad43
  have Fd44 := fun_mk (st := s_l_between) ld44 cd44 kd44
  have bd44 := Fd44.binds (ps := ["_law_one", "_law_other"]) fun _ _ _ _ _ _ us hl => match us, hl with | [_, _], _ => rfl
  have vd44 := PySem.W.mg_of X G ad44
  have Fd45 := fun_mk (st := s_l_lowest) ld45 cd45 kd45
  have bd45 := Fd45.binds (ps := ["_law_top", "_law_bottom"]) fun _ _ _ _ _ _ us hl => match us, hl with | [_, _], _ => rfl
  have vd45 := PySem.W.mg_of X G ad45
  have Fd46 := fun_mk (st := s_l_masks) ld46 cd46 kd46
  have bd46 := Fd46.binds (ps := ["_law_spans"]) fun _ _ _ _ _ _ us hl => match us, hl with | [_], _ => rfl
  have vd46 := PySem.W.mg_of X G ad46
  have Fd47 := fun_mk (st := s_l_rows) ld47 cd47 kd47
  have bd47 := Fd47.binds (ps := ["_law_found"]) fun _ _ _ _ _ _ us hl => match us, hl with | [_], _ => rfl
  have vd47 := PySem.W.mg_of X G ad47
  have Fd48 := fun_mk (st := s_l_gap) ld48 cd48 kd48
  have bd48 := Fd48.binds (ps := ["_law_found"]) fun _ _ _ _ _ _ us hl => match us, hl with | [_], _ => rfl
  have vd48 := PySem.W.mg_of X G ad48
  have Fd49 := fun_mk (st := s_l_single) ld49 cd49 kd49
  have bd49 := Fd49.binds (ps := ["_law_pen_here"]) fun _ _ _ _ _ _ us hl => match us, hl with | [_], _ => rfl
  have vd49 := PySem.W.mg_of X G ad49
  have Fd50 := fun_mk (st := s_law) ld50 cd50 kd50
  have bd50 := Fd50.binds (ps := ["_law_script"]) fun _ _ _ _ _ _ us hl => match us, hl with | [_], _ => rfl
  have vd50 := PySem.W.mg_of X G ad50
  have Fm0 := fun_mk (st := s_Line_init) lm0 cm0 km0
  have Fm1 := fun_mk (st := s_Line_len) lm1 cm1 km1
  have bm1 := Fm1.binds (ps := ["self"]) fun _ _ _ _ _ _ us hl => match us, hl with | [_], _ => rfl
  have Fm2 := fun_mk (st := s_Line_call) lm2 cm2 km2
  have bm2 := Fm2.binds (ps := ["self", "one", "other"]) fun _ _ _ _ _ _ us hl => match us, hl with | [_, _, _], _ => rfl
  have Fm3 := fun_mk (st := s_Line_add) lm3 cm3 km3
  have bm3 := Fm3.binds (ps := ["self", "other"]) fun _ _ _ _ _ _ us hl => match us, hl with | [_, _], _ => rfl
  have Fm4 := fun_mk (st := s_Line_sub) lm4 cm4 km4
  have bm4 := Fm4.binds (ps := ["self", "other"]) fun _ _ _ _ _ _ us hl => match us, hl with | [_, _], _ => rfl
  have Fm5 := fun_mk (st := s_Line_neg) lm5 cm5 km5
  have bm5 := Fm5.binds (ps := ["self"]) fun _ _ _ _ _ _ us hl => match us, hl with | [_], _ => rfl
  have Fm6 := fun_mk (st := s_Line_eq) lm6 cm6 km6
  have bm6 := Fm6.binds (ps := ["self", "other"]) fun _ _ _ _ _ _ us hl => match us, hl with | [_, _], _ => rfl
  have Fm7 := fun_mk (st := s_Line_getitem) lm7 cm7 km7
  have bm7 := Fm7.binds (ps := ["self", "at"]) fun _ _ _ _ _ _ us hl => match us, hl with | [_, _], _ => rfl
  have Fm8 := fun_mk (st := s_Line_repr) lm8 cm8 km8
  have bm8 := Fm8.binds (ps := ["self"]) fun _ _ _ _ _ _ us hl => match us, hl with | [_], _ => rfl
  have Fp0 := fun_mk (st := s_Line_works) lp0 cp0 kp0
  have bp0 := Fp0.binds (ps := ["self"]) fun _ _ _ _ _ _ us hl => match us, hl with | [_], _ => rfl
  have Fp1 := fun_mk (st := s_Line_reach) lp1 cp1 kp1
  have bp1 := Fp1.binds (ps := ["self"]) fun _ _ _ _ _ _ us hl => match us, hl with | [_], _ => rfl
  have N_NOWHERE : ∃ t, mg "NOWHERE" = some (.int (-1) t) := ⟨_, PySem.W.mg_of X G u_NOWHERE⟩
  have N_STATIONS : ∃ t, mg "STATIONS" = some (.int (10) t) := ⟨_, PySem.W.mg_of X G u_STATIONS⟩
  have N_MOST_ITEMS : ∃ t, mg "MOST_ITEMS" = some (.int (60) t) := ⟨_, PySem.W.mg_of X G u_MOST_ITEMS⟩
  have N_MOST_WORKS : ∃ t, mg "MOST_WORKS" = some (.int (3) t) := ⟨_, PySem.W.mg_of X G u_MOST_WORKS⟩
  have N_NOTHING : ∃ t, mg "NOTHING" = some (.int (-1) t) := ⟨_, PySem.W.mg_of X G u_NOTHING⟩
  have N_MOST_WORTH : ∃ t, mg "MOST_WORTH" = some (.int (20) t) := ⟨_, PySem.W.mg_of X G u_MOST_WORTH⟩
  have cl : Cls K C := ⟨pg, hd, po, sa⟩
  have T : LC K mg C := ⟨cl, nW, nB, nR, PySem.W.mg_of X G aC⟩
  have kit : PySem.W.kitOne K (.ref C) (.ref C) = some true := by unfold PySem.W.kitOne; simp
  have I : LI K C := ⟨ha, hn, ht, hm, kit⟩
  have O : Ops K C := ⟨sf, ⟨none, rs, .inl rfl⟩, ⟨_, is1⟩, ⟨_, ir1⟩, nsub, ne, ob⟩
  have Mi : Mk K C fm0 := ⟨mk, am0, im0, kc⟩
  refine ⟨PySem.W.fnOf "law" "law" (defArgs s_law) (defBody s_law) (defScope s_law) .none kVd50 dcd50 pmd50 and50 cdd50 ctd50, fun s v => .of_eq rfl, fun base _ _ => ?_⟩
  have v_gcd := PySem.W.mg_of X G xgcd
  have Gd0 := ok_is_int (P := l.prog) (w := w) (mg := mg) (base := base) (k := 0) Fd0 y_isinstance y_int y_bool
  have Gd1 := ok_is_between (P := l.prog) (w := w) (mg := mg) (base := base) (k := 1) Fd1 (Gd0.mono (by decide)) kd0 bd0 vd0
  have N : Nums mg := ⟨N_NOWHERE, N_STATIONS, N_MOST_ITEMS⟩
  have Gd14 := ok_is_work (P := l.prog) (w := w) (mg := mg) (base := base) (k := 2) Fd14 N (Gd1.mono (by decide)) kd1 bd1 vd1 y_isinstance y_tuple y_len y_all
  have Gd16 := ok_require_work (P := l.prog) (w := w) (mg := mg) (base := base) (k := 3) Fd16 (Gd14.mono (by decide)) kd14 bd14 vd14
  have Gd17 := ok_clashes_behind (P := l.prog) (w := w) (mg := mg) (base := base) (k := 3) Fd17 N y_any y_zip
  have Gd15 := ok_bars (P := l.prog) (w := w) (mg := mg) (base := base) (k := 4) Fd15 Gd16 kd16 bd16 vd16 Gd17 kd17 bd17 vd17 y_tuple y_range y_len
  have Gd20 := ok_bars_of_all (P := l.prog) (w := w) (mg := mg) (base := base) (k := 5) Fd20 y_tuple Gd15 kd15 bd15 vd15
  have Gi := ok_init (P := l.prog) (w := w) (mg := mg) (base := base) (k := 6) Fm0 T N_MOST_WORKS (Gd14.mono (by decide)) kd14 bd14 vd14 Gd20 kd20 bd20 vd20 y_all y_len y_max
  have Glen := ok_len (P := l.prog) (w := w) (mg := mg) (base := base) (k := 1) Fm1 T y_len
  have Gd18 := ok_is_kind (P := l.prog) (w := w) (mg := mg) (base := base) (k := 2) Fd18 T y_len Gd1 kd1 bd1 vd1 Glen bm1 am1 im1
  have Gd19 := ok_require_kind (P := l.prog) (w := w) (mg := mg) (base := base) (k := 4) Fd19 Gd18 kd18 bd18 vd18
  have Gcall := ok_call (P := l.prog) (w := w) (mg := mg) (base := base) (k := 5) Fm2 T Gd19 kd19 bd19 vd19
  have Gadd := ok_add (P := l.prog) (w := w) (mg := mg) (base := base) (k := 7) Fm3 T I Mi Gi y_isinstance
  have Gsub := ok_sub (P := l.prog) (w := w) (mg := mg) (base := base) (k := 7) Fm4 T Mi Gi (Gd19.mono (by decide)) kd19 bd19 vd19 y_len
  have Gneg := ok_neg (P := l.prog) (w := w) (mg := mg) (base := base) (k := 7) Fm5 T Mi Gi
  have Geq := ok_eq (P := l.prog) (w := w) (mg := mg) (base := base) (k := 0) Fm6 T I y_isinstance
  have Gw := fn_getter (CX := CX0) (P := l.prog) (w := w) (mg := mg) (base := base) (k := 0) lp0 cp0 sc_Line_works rfl rfl cl nW
  have Gr := fn_getter (CX := CX0) (P := l.prog) (w := w) (mg := mg) (base := base) (k := 0) lp1 cp1 sc_Line_reach rfl rfl cl nR
  have M : Meths l.prog w K mg base 10 C := ⟨T, I, O, ⟨_, _, Glen.mono (by decide), bm1, am1, im1⟩, ⟨_, _, ⟨Gcall.mono (by decide), bm2, am2, im2⟩, fi⟩, ⟨_, _, Gadd.mono (by decide), bm3, am3, im3⟩, ⟨_, _, Gsub.mono (by decide), bm4, am4, im4⟩, ⟨_, _, Gneg.mono (by decide), bm5, am5, im5⟩, ⟨_, _, Geq.mono (by decide), bm6, am6, im6⟩, ⟨_, _, _, ⟨ap0, gp0, tp0, _, rp0⟩, Gw.mono (by decide), bp0⟩, ⟨_, _, _, ⟨ap1, gp1, tp1, _, rp1⟩, Gr.mono (by decide), bp1⟩, ⟨_, Mi, Gi.mono (by decide)⟩⟩
  have Gitem := ok_item (P := l.prog) (w := w) (mg := mg) (base := base) (k := 5) Fm7 T Gd19 kd19 bd19 vd19
  have Grepr := ok_repr (P := l.prog) (w := w) (mg := mg) (base := base) (k := 0) Fm8 T y_len
  have M2 : Meths2 l.prog w K mg base 10 C := ⟨M, ⟨_, _, ⟨Gitem.mono (by decide), bm7, am7, im7⟩, fg⟩, ⟨_, _, Grepr.mono (by decide), bm8, am8, im8⟩⟩
  have Gd21 := ok_require_line (P := l.prog) (w := w) (mg := mg) (base := base) (k := 0) Fd21 T I y_isinstance
  have Gd23 := ok_require_near (P := l.prog) (w := w) (mg := mg) (base := base) (k := 10) Fd23 M (Gd21.mono (by decide)) kd21 bd21 vd21 y_len
  have Gd28 := ok_ascending (P := l.prog) (w := w) (mg := mg) (base := base) (k := 0) Fd28 y_tuple y_sorted y_set
  have Gd27 := ok_delays (P := l.prog) (w := w) (mg := mg) (base := base) (k := 10) Fd27 M
  have Gd26 := ok_behind (P := l.prog) (w := w) (mg := mg) (base := base) (k := 13) Fd26 N_NOTHING (Gd27.mono (by decide)) kd27 bd27 vd27 (Gd28.mono (by decide)) kd28 bd28 vd28 y_enumerate y_tuple
  have Gd25 := ok_open_choices (P := l.prog) (w := w) (mg := mg) (base := base) (k := 0) Fd25 N_NOTHING y_enumerate
  have Gd24 := ok_empty_state (P := l.prog) (w := w) (mg := mg) (base := base) (k := 10) Fd24 M y_len
  have Gd29 := ok_moves (P := l.prog) (w := w) (mg := mg) (base := base) (k := 14) Fd29 (Gd24.mono (by decide)) kd24 bd24 vd24 (Gd25.mono (by decide)) kd25 bd25 vd25 (Gd26.mono (by decide)) kd26 bd26 vd26
  have Gd22 := ok_numbered (P := l.prog) (w := w) (mg := mg) (base := base) (k := 15) Fd22 (Gd29.mono (by decide)) kd29 bd29 vd29 y_sorted y_list y_enumerate
  have Gd2 := ok_fractionB (P := l.prog) (w := w) (mg := mg) (base := base) (k := 0) Fd2 v_gcd
  have Gd4 := ok_excess (P := l.prog) (w := w) (mg := mg) (base := base) (k := 0) Fd4
  have Gd8 := ok_raise (P := l.prog) (w := w) (mg := mg) (base := base) (k := 1) Fd8 (Gd4.mono (by decide)) kd4 bd4 vd4 y_enumerate
  have Gd10 := ok_measured (P := l.prog) (w := w) (mg := mg) (base := base) (k := 0) Fd10
  have Gd9 := ok_cycle_of (P := l.prog) (w := w) (mg := mg) (base := base) (k := 1) Fd9 (Gd10.mono (by decide)) kd10 bd10 vd10 y_range y_len
  have Gd7 := ok_settled (P := l.prog) (w := w) (mg := mg) (base := base) (k := 2) Fd7 (Gd8.mono (by decide)) kd8 bd8 vd8 (Gd9.mono (by decide)) kd9 bd9 vd9 y_len
  have Gd3 := ok_greatest (P := l.prog) (w := w) (mg := mg) (base := base) (k := 3) Fd3 (Gd7.mono (by decide)) kd7 bd7 vd7 (Gd2.mono (by decide)) kd2 bd2 vd2
  have Gd11 := ok_sources (P := l.prog) (w := w) (mg := mg) (base := base) (k := 0) Fd11 y_enumerate
  have Gd12 := ok_steps_to (P := l.prog) (w := w) (mg := mg) (base := base) (k := 0) Fd12 y_range y_list
  have Gd13 := ok_round (P := l.prog) (w := w) (mg := mg) (base := base) (k := 0) Fd13 y_range y_min y_tuple
  have Gd6 := ok_smallest (P := l.prog) (w := w) (mg := mg) (base := base) (k := 1) Fd6 (Gd11.mono (by decide)) kd11 bd11 vd11 (Gd13.mono (by decide)) kd13 bd13 vd13 (Gd12.mono (by decide)) kd12 bd12 vd12 y_range y_len
  have Gd5 := ok_tight (P := l.prog) (w := w) (mg := mg) (base := base) (k := 1) Fd5 (Gd4.mono (by decide)) kd4 bd4 vd4 y_enumerate
  have Gd30 := ok_worth_of (P := l.prog) (w := w) (mg := mg) (base := base) (k := 0) Fd30 N_NOTHING
  have Gd34 := ok_weighted (P := l.prog) (w := w) (mg := mg) (base := base) (k := 1) Fd34 (Gd30.mono (by decide)) kd30 bd30 vd30
  have Gd32 := ok_is_worths (P := l.prog) (w := w) (mg := mg) (base := base) (k := 10) Fd32 M2 N_MOST_WORTH (Gd1.mono (by decide)) kd1 bd1 vd1 y_isinstance y_tuple y_len y_all y_sum
  have Gd31 := ok_require_worths (P := l.prog) (w := w) (mg := mg) (base := base) (k := 13) Fd31 (Gd21.mono (by decide)) kd21 bd21 vd21 (Gd32.mono (by decide)) kd32 bd32 vd32
  have Gd35 := ok_graph (P := l.prog) (w := w) (mg := mg) (base := base) (k := 16) Fd35 (Gd31.mono (by decide)) kd31 bd31 vd31 (Gd23.mono (by decide)) kd23 ⟨bd23.1, bd23.2⟩ vd23 (Gd34.mono (by decide)) kd34 bd34 vd34 (Gd22.mono (by decide)) kd22 bd22 vd22
  have Gd33 := ok_best (P := l.prog) (w := w) (mg := mg) (base := base) (k := 17) Fd33 (Gd35.mono (by decide)) kd35 bd35 vd35 (Gd3.mono (by decide)) kd3 bd3 vd3 (Gd6.mono (by decide)) kd6 bd6 vd6 (Gd5.mono (by decide)) kd5 bd5 vd5
  have GBC := best_c Gd33
  have Gd36 := ok_gapC (P := l.prog) (w := w) (mg := mg) (base := base) (k := 16) Fd36 (M.up (by decide)) (GBC.mono (by decide)) kd33 bd33 vd33
  have Gd37 := ok_l_cell_at (P := l.prog) (w := w) (mg := mg) (base := base) (k := 0) Fd37 y_len
  have Gd38 := ok_l_pen (P := l.prog) (w := w) (mg := mg) (base := base) (k := 0) Fd38 y_max
  have Gd39 := ok_l_draw (P := l.prog) (w := w) (mg := mg) (base := base) (k := 0) Fd39
  have Gd40 := ok_pick (P := l.prog) (w := w) (mg := mg) (base := base) (k := 1) Fd40 (Gd39.mono (by decide)) kd39 bd39 vd39 y_len
  have Gd41 := ok_l_same (P := l.prog) (w := w) (mg := mg) (base := base) (k := 0) Fd41 y_repr
  have Gd42 := ok_names (P := l.prog) (w := w) (mg := mg) (base := base) (k := 2) Fd42 (Gd39.mono (by decide)) kd39 bd39 vd39 (Gd40.mono (by decide)) kd40 bd40 vd40 y_range
  have Gd43 := ok_lwork (P := l.prog) (w := w) (mg := mg) (base := base) (k := 2) Fd43 (Gd39.mono (by decide)) kd39 bd39 vd39 (Gd40.mono (by decide)) kd40 bd40 vd40 y_range y_tuple y_len
  have Gd44 := ok_between (P := l.prog) (w := w) (mg := mg) (base := base) (k := 0) Fd44 y_enumerate y_len y_range y_min y_sorted y_set
  have Gd45 := ok_lowest (P := l.prog) (w := w) (mg := mg) (base := base) (k := 0) Fd45
  have Gd46 := ok_masks (P := l.prog) (w := w) (mg := mg) (base := base) (k := 0) Fd46 y_sum
  have Gd47 := ok_rows (P := l.prog) (w := w) (mg := mg) (base := base) (k := 0) Fd47 y_range y_len y_max
  have Gd48 := ok_lgap (P := l.prog) (w := w) (mg := mg) (base := base) (k := 1) Fd48 (Gd47.mono (by decide)) kd47 bd47 vd47 (Gd45.mono (by decide)) kd45 bd45 vd45 y_range y_len
  have Gd49 := ok_single (P := l.prog) (w := w) (mg := mg) (base := base) (k := 3) Fd49 (Gd40.mono (by decide)) kd40 bd40 vd40 (Gd42.mono (by decide)) kd42 bd42 vd42 (Gd43.mono (by decide)) kd43 bd43 vd43 (Gd44.mono (by decide)) kd44 bd44 vd44 (Gd46.mono (by decide)) kd46 bd46 vd46 y_len y_range
  have kb_gap : KBinds K (PySem.W.fnOf "gap" "gap" (defArgs s_gap) (defBody s_gap) (defScope s_gap) .none kVd36 dcd36 pmd36 and36 cdd36 ctd36) ["work"] ["work"] kwI kwI := by
    refine ⟨fun s us ws _ hl => ?_, kwI_rel⟩
    match us, ws, hl with
    | [], [a], _ => exact .of_eq rfl
    | [], [], hl => exact absurd hl (by simp [kwI])
    | [], _ :: _ :: _, hl => exact absurd hl (by simp [kwI])
    | _ :: _, _, hl => exact absurd hl (by simp [kwI])
  exact ok_law (P := l.prog) (w := w) (mg := mg) (base := base) (k := 20) Fd50 (Gd37.mono (by decide)) kd37 bd37 vd37 (Gd38.mono (by decide)) kd38 bd38 vd38 (Gd49.mono (by decide)) kd49 bd49 vd49 (Gd46.mono (by decide)) kd46 bd46 vd46 (Gd48.mono (by decide)) kd48 bd48 vd48 (Gd44.mono (by decide)) kd44 bd44 vd44 (Gd36.mono (by decide)) kd36 bd36 vd36 (Gd41.mono (by decide)) kd41 bd41 vd41 kb_gap y_len y_range y_max y_min
end Sg
set_option Elab.async false
set_option linter.all false
local macro_rules | `(tactic| kernel_rfl) => `(tactic| (with_reducible refine Sg.carry ?ee _ ?cc; (case ee => kernel_rfl); (case cc => kernel_rfl)))
open PySem PySem.W PyProof.Rows
set_option maxRecDepth 100000 in
set_option maxHeartbeats 0 in
theorem PySem.Challenge.cw_startgaps_k30_least_mean_distances_holds : PySem.Challenge.rw_startgaps_k30_least_mean_distances.Holds := by
  w_on; o_law; k_headL; (case hw => w_witness2)
  k_fill
  refine Sg.walk_law (l := PySem.Challenge.rw_startgaps_k30_least_mean_distances) (k := 21) (x := "_law_script") (sp := Sg.spLaw) rfl rfl ⟨rfl, by decide, by decide⟩ (fun w h Y => PySem.W.kIn_of Y) ?F (fun K H a ns hl _ hS => ⟨a, ns, rfl, hS, hl, fun _ => rfl⟩)
  case F =>
    intro w mg fa h KX G hmg
    refine' Sg.all_mk KX G hmg ?ad0 ?ld0 ?cd0 ?kd0 ?ad1 ?ld1 ?cd1 ?kd1 ?ad2 ?ld2 ?cd2 ?kd2 ?ad3 ?ld3 ?cd3 ?kd3 ?ad4 ?ld4 ?cd4 ?kd4 ?ad5 ?ld5 ?cd5 ?kd5 ?ad6 ?ld6 ?cd6 ?kd6 ?ad7 ?ld7 ?cd7 ?kd7 ?ad8 ?ld8 ?cd8 ?kd8 ?ad9 ?ld9 ?cd9 ?kd9 ?ad10 ?ld10 ?cd10 ?kd10 ?ad11 ?ld11 ?cd11 ?kd11 ?ad12 ?ld12 ?cd12 ?kd12 ?ad13 ?ld13 ?cd13 ?kd13 ?ad14 ?ld14 ?cd14 ?kd14 ?ad15 ?ld15 ?cd15 ?kd15 ?ad16 ?ld16 ?cd16 ?kd16 ?ad17 ?ld17 ?cd17 ?kd17 ?ad18 ?ld18 ?cd18 ?kd18 ?ad19 ?ld19 ?cd19 ?kd19 ?ad20 ?ld20 ?cd20 ?kd20 ?ad21 ?ld21 ?cd21 ?kd21 ?ad22 ?ld22 ?cd22 ?kd22 ?ad23 ?ld23 ?D_d23 ?cd23 ?kd23 ?ad24 ?ld24 ?cd24 ?kd24 ?ad25 ?ld25 ?cd25 ?kd25 ?ad26 ?ld26 ?cd26 ?kd26 ?ad27 ?ld27 ?cd27 ?kd27 ?ad28 ?ld28 ?cd28 ?kd28 ?ad29 ?ld29 ?cd29 ?kd29 ?ad30 ?ld30 ?cd30 ?kd30 ?ad31 ?ld31 ?cd31 ?kd31 ?ad32 ?ld32 ?cd32 ?kd32 ?ad33 ?ld33 ?cd33 ?kd33 ?ad34 ?ld34 ?cd34 ?kd34 ?ad35 ?ld35 ?cd35 ?kd35 ?ad36 ?ld36 ?cd36 ?kd36 ?ad37 ?ld37 ?cd37 ?kd37 ?ad38 ?ld38 ?cd38 ?kd38 ?ad39 ?ld39 ?cd39 ?kd39 ?ad40 ?ld40 ?cd40 ?kd40 ?ad41 ?ld41 ?cd41 ?kd41 ?ad42 ?ld42 ?cd42 ?kd42 ?ad43 ?ld43 ?cd43 ?kd43 ?ad44 ?ld44 ?cd44 ?kd44 ?ad45 ?ld45 ?cd45 ?kd45 ?ad46 ?ld46 ?cd46 ?kd46 ?ad47 ?ld47 ?cd47 ?kd47 ?ad48 ?ld48 ?cd48 ?kd48 ?ad49 ?ld49 ?cd49 ?kd49 ?ad50 ?ld50 ?cd50 ?kd50 ?aC ?am0 ?im0 ?lm0 ?cm0 ?km0 ?am1 ?im1 ?lm1 ?cm1 ?km1 ?am2 ?im2 ?lm2 ?cm2 ?km2 ?am3 ?im3 ?lm3 ?cm3 ?km3 ?am4 ?im4 ?lm4 ?cm4 ?km4 ?am5 ?im5 ?lm5 ?cm5 ?km5 ?am6 ?im6 ?lm6 ?cm6 ?km6 ?am7 ?im7 ?lm7 ?cm7 ?km7 ?am8 ?im8 ?lm8 ?cm8 ?km8 ?ap0 ?gp0 ?tp0 ?rp0 ?lp0 ?cp0 ?kp0 ?ap1 ?gp1 ?tp1 ?rp1 ?lp1 ?cp1 ?kp1 ?pg ?hd ?po ?sa ?mk ?kc ?nW ?nB ?nR ?ha ?hn ?ht ?hm ?sf ?rs ?is1 ?ir1 ?nsub ?ne ?ob ?fi ?fg ?xgcd ?z_isinstance ?z_int ?z_bool ?z_tuple ?z_len ?z_all ?z_any ?z_zip ?z_range ?z_max ?z_min ?z_enumerate ?z_sorted ?z_set ?z_list ?z_sum ?z_repr ?u_NOWHERE ?u_STATIONS ?u_MOST_ITEMS ?u_MOST_WORKS ?u_NOTHING ?u_MOST_WORTH
    (case ad0 => as_aux_lemma => k_is)
    (case ld0 => as_aux_lemma => k_is)
    (case cd0 => as_aux_lemma => k_is)
    (case kd0 => as_aux_lemma => k_is)
    (case ad1 => as_aux_lemma => k_is)
    (case ld1 => as_aux_lemma => k_is)
    (case cd1 => as_aux_lemma => k_is)
    (case kd1 => as_aux_lemma => k_is)
    (case ad2 => as_aux_lemma => k_is)
    (case ld2 => as_aux_lemma => k_is)
    (case cd2 => as_aux_lemma => k_is)
    (case kd2 => as_aux_lemma => k_is)
    (case ad3 => as_aux_lemma => k_is)
    (case ld3 => as_aux_lemma => k_is)
    (case cd3 => as_aux_lemma => k_is)
    (case kd3 => as_aux_lemma => k_is)
    (case ad4 => as_aux_lemma => k_is)
    (case ld4 => as_aux_lemma => k_is)
    (case cd4 => as_aux_lemma => k_is)
    (case kd4 => as_aux_lemma => k_is)
    (case ad5 => as_aux_lemma => k_is)
    (case ld5 => as_aux_lemma => k_is)
    (case cd5 => as_aux_lemma => k_is)
    (case kd5 => as_aux_lemma => k_is)
    (case ad6 => as_aux_lemma => k_is)
    (case ld6 => as_aux_lemma => k_is)
    (case cd6 => as_aux_lemma => k_is)
    (case kd6 => as_aux_lemma => k_is)
    (case ad7 => as_aux_lemma => k_is)
    (case ld7 => as_aux_lemma => k_is)
    (case cd7 => as_aux_lemma => k_is)
    (case kd7 => as_aux_lemma => k_is)
    (case ad8 => as_aux_lemma => k_is)
    (case ld8 => as_aux_lemma => k_is)
    (case cd8 => as_aux_lemma => k_is)
    (case kd8 => as_aux_lemma => k_is)
    (case ad9 => as_aux_lemma => k_is)
    (case ld9 => as_aux_lemma => k_is)
    (case cd9 => as_aux_lemma => k_is)
    (case kd9 => as_aux_lemma => k_is)
    (case ad10 => as_aux_lemma => k_is)
    (case ld10 => as_aux_lemma => k_is)
    (case cd10 => as_aux_lemma => k_is)
    (case kd10 => as_aux_lemma => k_is)
    (case ad11 => as_aux_lemma => k_is)
    (case ld11 => as_aux_lemma => k_is)
    (case cd11 => as_aux_lemma => k_is)
    (case kd11 => as_aux_lemma => k_is)
    (case ad12 => as_aux_lemma => k_is)
    (case ld12 => as_aux_lemma => k_is)
    (case cd12 => as_aux_lemma => k_is)
    (case kd12 => as_aux_lemma => k_is)
    (case ad13 => as_aux_lemma => k_is)
    (case ld13 => as_aux_lemma => k_is)
    (case cd13 => as_aux_lemma => k_is)
    (case kd13 => as_aux_lemma => k_is)
    (case ad14 => as_aux_lemma => k_is)
    (case ld14 => as_aux_lemma => k_is)
    (case cd14 => as_aux_lemma => k_is)
    (case kd14 => as_aux_lemma => k_is)
    (case ad15 => as_aux_lemma => k_is)
    (case ld15 => as_aux_lemma => k_is)
    (case cd15 => as_aux_lemma => k_is)
    (case kd15 => as_aux_lemma => k_is)
    (case ad16 => as_aux_lemma => k_is)
    (case ld16 => as_aux_lemma => k_is)
    (case cd16 => as_aux_lemma => k_is)
    (case kd16 => as_aux_lemma => k_is)
    (case ad17 => as_aux_lemma => k_is)
    (case ld17 => as_aux_lemma => k_is)
    (case cd17 => as_aux_lemma => k_is)
    (case kd17 => as_aux_lemma => k_is)
    (case ad18 => as_aux_lemma => k_is)
    (case ld18 => as_aux_lemma => k_is)
    (case cd18 => as_aux_lemma => k_is)
    (case kd18 => as_aux_lemma => k_is)
    (case ad19 => as_aux_lemma => k_is)
    (case ld19 => as_aux_lemma => k_is)
    (case cd19 => as_aux_lemma => k_is)
    (case kd19 => as_aux_lemma => k_is)
    (case ad20 => as_aux_lemma => k_is)
    (case ld20 => as_aux_lemma => k_is)
    (case cd20 => as_aux_lemma => k_is)
    (case kd20 => as_aux_lemma => k_is)
    (case ad21 => as_aux_lemma => k_is)
    (case ld21 => as_aux_lemma => k_is)
    (case cd21 => as_aux_lemma => k_is)
    (case kd21 => as_aux_lemma => k_is)
    (case ad22 => as_aux_lemma => k_is)
    (case ld22 => as_aux_lemma => k_is)
    (case cd22 => as_aux_lemma => k_is)
    (case kd22 => as_aux_lemma => k_is)
    (case ad23 => as_aux_lemma => k_is)
    (case ld23 => as_aux_lemma => k_is)
    (case D_d23 => as_aux_lemma => k_is)
    (case cd23 => as_aux_lemma => k_is)
    (case kd23 => as_aux_lemma => k_is)
    (case ad24 => as_aux_lemma => k_is)
    (case ld24 => as_aux_lemma => k_is)
    (case cd24 => as_aux_lemma => k_is)
    (case kd24 => as_aux_lemma => k_is)
    (case ad25 => as_aux_lemma => k_is)
    (case ld25 => as_aux_lemma => k_is)
    (case cd25 => as_aux_lemma => k_is)
    (case kd25 => as_aux_lemma => k_is)
    (case ad26 => as_aux_lemma => k_is)
    (case ld26 => as_aux_lemma => k_is)
    (case cd26 => as_aux_lemma => k_is)
    (case kd26 => as_aux_lemma => k_is)
    (case ad27 => as_aux_lemma => k_is)
    (case ld27 => as_aux_lemma => k_is)
    (case cd27 => as_aux_lemma => k_is)
    (case kd27 => as_aux_lemma => k_is)
    (case ad28 => as_aux_lemma => k_is)
    (case ld28 => as_aux_lemma => k_is)
    (case cd28 => as_aux_lemma => k_is)
    (case kd28 => as_aux_lemma => k_is)
    (case ad29 => as_aux_lemma => k_is)
    (case ld29 => as_aux_lemma => k_is)
    (case cd29 => as_aux_lemma => k_is)
    (case kd29 => as_aux_lemma => k_is)
    (case ad30 => as_aux_lemma => k_is)
    (case ld30 => as_aux_lemma => k_is)
    (case cd30 => as_aux_lemma => k_is)
    (case kd30 => as_aux_lemma => k_is)
    (case ad31 => as_aux_lemma => k_is)
    (case ld31 => as_aux_lemma => k_is)
    (case cd31 => as_aux_lemma => k_is)
    (case kd31 => as_aux_lemma => k_is)
    (case ad32 => as_aux_lemma => k_is)
    (case ld32 => as_aux_lemma => k_is)
    (case cd32 => as_aux_lemma => k_is)
    (case kd32 => as_aux_lemma => k_is)
    (case ad33 => as_aux_lemma => k_is)
    (case ld33 => as_aux_lemma => k_is)
    (case cd33 => as_aux_lemma => k_is)
    (case kd33 => as_aux_lemma => k_is)
    (case ad34 => as_aux_lemma => k_is)
    (case ld34 => as_aux_lemma => k_is)
    (case cd34 => as_aux_lemma => k_is)
    (case kd34 => as_aux_lemma => k_is)
    (case ad35 => as_aux_lemma => k_is)
    (case ld35 => as_aux_lemma => k_is)
    (case cd35 => as_aux_lemma => k_is)
    (case kd35 => as_aux_lemma => k_is)
    (case ad36 => as_aux_lemma => k_is)
    (case ld36 => as_aux_lemma => k_is)
    (case cd36 => as_aux_lemma => k_is)
    (case kd36 => as_aux_lemma => k_is)
    (case ad37 => as_aux_lemma => k_is)
    (case ld37 => as_aux_lemma => k_is)
    (case cd37 => as_aux_lemma => k_is)
    (case kd37 => as_aux_lemma => k_is)
    (case ad38 => as_aux_lemma => k_is)
    (case ld38 => as_aux_lemma => k_is)
    (case cd38 => as_aux_lemma => k_is)
    (case kd38 => as_aux_lemma => k_is)
    (case ad39 => as_aux_lemma => k_is)
    (case ld39 => as_aux_lemma => k_is)
    (case cd39 => as_aux_lemma => k_is)
    (case kd39 => as_aux_lemma => k_is)
    (case ad40 => as_aux_lemma => k_is)
    (case ld40 => as_aux_lemma => k_is)
    (case cd40 => as_aux_lemma => k_is)
    (case kd40 => as_aux_lemma => k_is)
    (case ad41 => as_aux_lemma => k_is)
    (case ld41 => as_aux_lemma => k_is)
    (case cd41 => as_aux_lemma => k_is)
    (case kd41 => as_aux_lemma => k_is)
    (case ad42 => as_aux_lemma => k_is)
    (case ld42 => as_aux_lemma => k_is)
    (case cd42 => as_aux_lemma => k_is)
    (case kd42 => as_aux_lemma => k_is)
    (case ad43 => as_aux_lemma => k_is)
    (case ld43 => as_aux_lemma => k_is)
    (case cd43 => as_aux_lemma => k_is)
    (case kd43 => as_aux_lemma => k_is)
    (case ad44 => as_aux_lemma => k_is)
    (case ld44 => as_aux_lemma => k_is)
    (case cd44 => as_aux_lemma => k_is)
    (case kd44 => as_aux_lemma => k_is)
    (case ad45 => as_aux_lemma => k_is)
    (case ld45 => as_aux_lemma => k_is)
    (case cd45 => as_aux_lemma => k_is)
    (case kd45 => as_aux_lemma => k_is)
    (case ad46 => as_aux_lemma => k_is)
    (case ld46 => as_aux_lemma => k_is)
    (case cd46 => as_aux_lemma => k_is)
    (case kd46 => as_aux_lemma => k_is)
    (case ad47 => as_aux_lemma => k_is)
    (case ld47 => as_aux_lemma => k_is)
    (case cd47 => as_aux_lemma => k_is)
    (case kd47 => as_aux_lemma => k_is)
    (case ad48 => as_aux_lemma => k_is)
    (case ld48 => as_aux_lemma => k_is)
    (case cd48 => as_aux_lemma => k_is)
    (case kd48 => as_aux_lemma => k_is)
    (case ad49 => as_aux_lemma => k_is)
    (case ld49 => as_aux_lemma => k_is)
    (case cd49 => as_aux_lemma => k_is)
    (case kd49 => as_aux_lemma => k_is)
    (case ad50 => as_aux_lemma => k_is)
    (case ld50 => as_aux_lemma => k_is)
    (case cd50 => as_aux_lemma => k_is)
    (case kd50 => as_aux_lemma => k_is)
    (case aC => as_aux_lemma => k_is)
    (case am0 => as_aux_lemma => k_is)
    (case im0 => as_aux_lemma => k_is)
    (case lm0 => as_aux_lemma => k_is)
    (case cm0 => as_aux_lemma => k_is)
    (case km0 => as_aux_lemma => k_is)
    (case am1 => as_aux_lemma => k_is)
    (case im1 => as_aux_lemma => k_is)
    (case lm1 => as_aux_lemma => k_is)
    (case cm1 => as_aux_lemma => k_is)
    (case km1 => as_aux_lemma => k_is)
    (case am2 => as_aux_lemma => k_is)
    (case im2 => as_aux_lemma => k_is)
    (case lm2 => as_aux_lemma => k_is)
    (case cm2 => as_aux_lemma => k_is)
    (case km2 => as_aux_lemma => k_is)
    (case am3 => as_aux_lemma => k_is)
    (case im3 => as_aux_lemma => k_is)
    (case lm3 => as_aux_lemma => k_is)
    (case cm3 => as_aux_lemma => k_is)
    (case km3 => as_aux_lemma => k_is)
    (case am4 => as_aux_lemma => k_is)
    (case im4 => as_aux_lemma => k_is)
    (case lm4 => as_aux_lemma => k_is)
    (case cm4 => as_aux_lemma => k_is)
    (case km4 => as_aux_lemma => k_is)
    (case am5 => as_aux_lemma => k_is)
    (case im5 => as_aux_lemma => k_is)
    (case lm5 => as_aux_lemma => k_is)
    (case cm5 => as_aux_lemma => k_is)
    (case km5 => as_aux_lemma => k_is)
    (case am6 => as_aux_lemma => k_is)
    (case im6 => as_aux_lemma => k_is)
    (case lm6 => as_aux_lemma => k_is)
    (case cm6 => as_aux_lemma => k_is)
    (case km6 => as_aux_lemma => k_is)
    (case am7 => as_aux_lemma => k_is)
    (case im7 => as_aux_lemma => k_is)
    (case lm7 => as_aux_lemma => k_is)
    (case cm7 => as_aux_lemma => k_is)
    (case km7 => as_aux_lemma => k_is)
    (case am8 => as_aux_lemma => k_is)
    (case im8 => as_aux_lemma => k_is)
    (case lm8 => as_aux_lemma => k_is)
    (case cm8 => as_aux_lemma => k_is)
    (case km8 => as_aux_lemma => k_is)
    (case ap0 => as_aux_lemma => k_is)
    (case gp0 => as_aux_lemma => k_is)
    (case tp0 => as_aux_lemma => k_is)
    (case rp0 => as_aux_lemma => k_is)
    (case lp0 => as_aux_lemma => k_is)
    (case cp0 => as_aux_lemma => k_is)
    (case kp0 => as_aux_lemma => k_is)
    (case ap1 => as_aux_lemma => k_is)
    (case gp1 => as_aux_lemma => k_is)
    (case tp1 => as_aux_lemma => k_is)
    (case rp1 => as_aux_lemma => k_is)
    (case lp1 => as_aux_lemma => k_is)
    (case cp1 => as_aux_lemma => k_is)
    (case kp1 => as_aux_lemma => k_is)
    (case pg => as_aux_lemma => k_is)
    (case hd => as_aux_lemma => k_is)
    (case po => as_aux_lemma => k_is)
    (case sa => as_aux_lemma => k_is)
    (case mk => as_aux_lemma => k_is)
    (case kc => as_aux_lemma => k_is)
    (case nW => as_aux_lemma => k_is)
    (case nB => as_aux_lemma => k_is)
    (case nR => as_aux_lemma => k_is)
    (case ha => as_aux_lemma => k_is)
    (case hn => as_aux_lemma => k_is)
    (case ht => as_aux_lemma => k_is)
    (case hm => as_aux_lemma => k_is)
    (case sf => as_aux_lemma => k_is)
    (case rs => as_aux_lemma => k_is)
    (case is1 => as_aux_lemma => k_is)
    (case ir1 => as_aux_lemma => k_is)
    (case nsub => as_aux_lemma => k_is)
    (case ne => as_aux_lemma => k_is)
    (case ob => as_aux_lemma => k_is)
    (case fi => as_aux_lemma => k_is)
    (case fg => as_aux_lemma => k_is)
    (case xgcd => as_aux_lemma => k_is)
    (case z_isinstance => as_aux_lemma => k_is)
    (case z_int => as_aux_lemma => k_is)
    (case z_bool => as_aux_lemma => k_is)
    (case z_tuple => as_aux_lemma => k_is)
    (case z_len => as_aux_lemma => k_is)
    (case z_all => as_aux_lemma => k_is)
    (case z_any => as_aux_lemma => k_is)
    (case z_zip => as_aux_lemma => k_is)
    (case z_range => as_aux_lemma => k_is)
    (case z_max => as_aux_lemma => k_is)
    (case z_min => as_aux_lemma => k_is)
    (case z_enumerate => as_aux_lemma => k_is)
    (case z_sorted => as_aux_lemma => k_is)
    (case z_set => as_aux_lemma => k_is)
    (case z_list => as_aux_lemma => k_is)
    (case z_sum => as_aux_lemma => k_is)
    (case z_repr => as_aux_lemma => k_is)
    (case u_NOWHERE => as_aux_lemma => k_is)
    (case u_STATIONS => as_aux_lemma => k_is)
    (case u_MOST_ITEMS => as_aux_lemma => k_is)
    (case u_MOST_WORKS => as_aux_lemma => k_is)
    (case u_NOTHING => as_aux_lemma => k_is)
    (case u_MOST_WORTH => as_aux_lemma => k_is)
