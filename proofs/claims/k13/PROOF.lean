import PyProof.Rows.All
import KE.OsRunLaw
import PySem.Challenge.RW_startgaps_k13_laps_refuse
import HandS.ForMost
import HandS.IsInst
import HandS.TupMul
import HandS.TupAny
import HandS.Walk
import HandS.Zip
import PyProof.ReprRoads
import PyProof.ReprBulk
import KE.GoesMore
import PyProof.EnumMake
import HandS.Star
import HandS.Property
import HandS.SortKw
import KE.KOpsOwn
import KE.DataMinMax
import PyProof.InstNe
import HandS.Style
import HandS.DictTup
import PyProof.DictMoreH
import HandS.Iter
import PyProof.Rows.RowBridgeK
import HandS.Wide
import PyProof.Rows.ReprShort
import PyProof.ReprLen
import HandS.Conv
import HandS.TupSets
import PyProof.P3Statements
import HandS.SetFor
import HandS.Strs
import HandS.Dict
import HandS.More
import HandS.Deep
import KE.KDictKeyed
import KE.SortKeyHeap
import HandS.EndTab
import KE.KNest
import PyProof.CallFns
import PyProof.StrOps2
import HandS.HotCalls
import HandS.ExcIs
import HandS.ExcOwn
import HandS.WordsExc
import KE.KTryMore
import HandS.FStr
import KE.KTupSum
import HandS.Gcd
import HandS.DeepEq
set_option Elab.async false
set_option linter.all false
set_option maxRecDepth 100000
section
def Sg.cutAt : Nat → List Nat → List PySem.Stmt → List PySem.Stmt
  | _, _, [] => []
  | i, ds, x :: xs => if ds.contains i then Sg.cutAt (i + 1) ds xs else x :: Sg.cutAt (i + 1) ds xs
def Sg.view : PySem.Program := { PySem.Challenge.rw_startgaps_k13_laps_refuse.row.prog with main := { (PySem.Challenge.rw_startgaps_k13_laps_refuse.row.prog).main with body := Sg.cutAt 0 [2, 32, 36, 44, 52, 62] (PySem.Challenge.rw_startgaps_k13_laps_refuse.row.prog).main.body } }
abbrev Sg.loose : List PySem.Str := [PySem.Str.ofString "Line"]
open PySem PySem.W PyProof.Rows
theorem Sg.map3 {α β γ δ : Type} {o : Option α} {f : α → β} {g : α → γ} {h : α → δ} {a : β} {b : γ} {c : δ} (h1 : o.map f = some a) (h2 : o.map g = some b) (h3 : o.map h = some c) : o.map (fun s => (f s, g s, h s)) = some (a, b, c) := by
  cases o with
  | none => cases h1
  | some x => cases h1; cases h2; cases h3; rfl
theorem Sg.map9 {α T1 T2 T3 T4 T5 T6 T7 T8 T9 : Type} {o : Option α} {f : α → T1 × T2 × T3 × T4 × T5 × T6 × T7 × T8 × T9} {a1 : T1} {a2 : T2} {a3 : T3} {a4 : T4} {a5 : T5} {a6 : T6} {a7 : T7} {a8 : T8} {a9 : T9} (h1 : o.map (fun x => (f x).1) = some a1) (h2 : o.map (fun x => (f x).2.1) = some a2) (h3 : o.map (fun x => (f x).2.2.1) = some a3) (h4 : o.map (fun x => (f x).2.2.2.1) = some a4) (h5 : o.map (fun x => (f x).2.2.2.2.1) = some a5) (h6 : o.map (fun x => (f x).2.2.2.2.2.1) = some a6) (h7 : o.map (fun x => (f x).2.2.2.2.2.2.1) = some a7) (h8 : o.map (fun x => (f x).2.2.2.2.2.2.2.1) = some a8) (h9 : o.map (fun x => (f x).2.2.2.2.2.2.2.2) = some a9) : o.map f = some (a1, a2, a3, a4, a5, a6, a7, a8, a9) := by
  cases o with
  | none => cases h1
  | some x =>
    have e := fun {β : Type} {u v : β} (h : some u = some v) => Option.some.inj h
    show some (f x) = _
    congr 1
    rw [← e h1, ← e h2, ← e h3, ← e h4, ← e h5, ← e h6, ← e h7, ← e h8, ← e h9]
theorem Sg.hA (w : PySem.World) : Option.map (fun x => HeadRun.looksF PySem.Challenge.rw_startgaps_k13_laps_refuse.row.prog x.1.heap x.2.abs) (HeadRun.wholeF (fun p => HeadRun.stepQ (HeadRun.denQ HeadRun.tabQ) p w) HeadRun.fenceQ 17920 PySem.Challenge.rw_startgaps_k13_laps_refuse.row.prog) = some true := by kernel_rfl
theorem Sg.hB1 (w : PySem.World) : Option.map (fun x => (HeadRun.seenQ Sg.view Sg.loose (PySem.importedModules PySem.Challenge.rw_startgaps_k13_laps_refuse.row.prog.main.body) (fun s => PySem.W.xlAt Sg.view [] s && PySem.W.recOk PySem.Challenge.rw_startgaps_k13_laps_refuse.row.records s) x.2.abs).1) (HeadRun.wholeF (fun p => HeadRun.stepQ (HeadRun.denQ HeadRun.tabQ) p w) HeadRun.fenceQ 17920 PySem.Challenge.rw_startgaps_k13_laps_refuse.row.prog) = some (expectedOf Sg.view) := by kernel_rfl
theorem Sg.hB2 (w : PySem.World) : Option.map (fun x => (HeadRun.seenQ Sg.view Sg.loose (PySem.importedModules PySem.Challenge.rw_startgaps_k13_laps_refuse.row.prog.main.body) (fun s => PySem.W.xlAt Sg.view [] s && PySem.W.recOk PySem.Challenge.rw_startgaps_k13_laps_refuse.row.records s) x.2.abs).2.1) (HeadRun.wholeF (fun p => HeadRun.stepQ (HeadRun.denQ HeadRun.tabQ) p w) HeadRun.fenceQ 17920 PySem.Challenge.rw_startgaps_k13_laps_refuse.row.prog) = some (bltViewBooted) := by kernel_rfl
theorem Sg.hB3 (w : PySem.World) : Option.map (fun x => (HeadRun.seenQ Sg.view Sg.loose (PySem.importedModules PySem.Challenge.rw_startgaps_k13_laps_refuse.row.prog.main.body) (fun s => PySem.W.xlAt Sg.view [] s && PySem.W.recOk PySem.Challenge.rw_startgaps_k13_laps_refuse.row.records s) x.2.abs).2.2.1) (HeadRun.wholeF (fun p => HeadRun.stepQ (HeadRun.denQ HeadRun.tabQ) p w) HeadRun.fenceQ 17920 PySem.Challenge.rw_startgaps_k13_laps_refuse.row.prog) = some (true) := by kernel_rfl
theorem Sg.hB4 (w : PySem.World) : Option.map (fun x => (HeadRun.seenQ Sg.view Sg.loose (PySem.importedModules PySem.Challenge.rw_startgaps_k13_laps_refuse.row.prog.main.body) (fun s => PySem.W.xlAt Sg.view [] s && PySem.W.recOk PySem.Challenge.rw_startgaps_k13_laps_refuse.row.records s) x.2.abs).2.2.2.1) (HeadRun.wholeF (fun p => HeadRun.stepQ (HeadRun.denQ HeadRun.tabQ) p w) HeadRun.fenceQ 17920 PySem.Challenge.rw_startgaps_k13_laps_refuse.row.prog) = some (true) := by kernel_rfl
theorem Sg.hB5 (w : PySem.World) : Option.map (fun x => (HeadRun.seenQ Sg.view Sg.loose (PySem.importedModules PySem.Challenge.rw_startgaps_k13_laps_refuse.row.prog.main.body) (fun s => PySem.W.xlAt Sg.view [] s && PySem.W.recOk PySem.Challenge.rw_startgaps_k13_laps_refuse.row.records s) x.2.abs).2.2.2.2.1) (HeadRun.wholeF (fun p => HeadRun.stepQ (HeadRun.denQ HeadRun.tabQ) p w) HeadRun.fenceQ 17920 PySem.Challenge.rw_startgaps_k13_laps_refuse.row.prog) = some (pinGoodD (drecsOf Sg.view)) := by kernel_rfl
theorem Sg.hB6 (w : PySem.World) : Option.map (fun x => (HeadRun.seenQ Sg.view Sg.loose (PySem.importedModules PySem.Challenge.rw_startgaps_k13_laps_refuse.row.prog.main.body) (fun s => PySem.W.xlAt Sg.view [] s && PySem.W.recOk PySem.Challenge.rw_startgaps_k13_laps_refuse.row.records s) x.2.abs).2.2.2.2.2.1) (HeadRun.wholeF (fun p => HeadRun.stepQ (HeadRun.denQ HeadRun.tabQ) p w) HeadRun.fenceQ 17920 PySem.Challenge.rw_startgaps_k13_laps_refuse.row.prog) = some (plainGoodE Sg.view (looseW Sg.view Sg.loose)) := by kernel_rfl
theorem Sg.hB7 (w : PySem.World) : Option.map (fun x => (HeadRun.seenQ Sg.view Sg.loose (PySem.importedModules PySem.Challenge.rw_startgaps_k13_laps_refuse.row.prog.main.body) (fun s => PySem.W.xlAt Sg.view [] s && PySem.W.recOk PySem.Challenge.rw_startgaps_k13_laps_refuse.row.records s) x.2.abs).2.2.2.2.2.2.1) (HeadRun.wholeF (fun p => HeadRun.stepQ (HeadRun.denQ HeadRun.tabQ) p w) HeadRun.fenceQ 17920 PySem.Challenge.rw_startgaps_k13_laps_refuse.row.prog) = some (plainGoodD Sg.view Sg.loose) := by kernel_rfl
theorem Sg.hB8 (w : PySem.World) : Option.map (fun x => (HeadRun.seenQ Sg.view Sg.loose (PySem.importedModules PySem.Challenge.rw_startgaps_k13_laps_refuse.row.prog.main.body) (fun s => PySem.W.xlAt Sg.view [] s && PySem.W.recOk PySem.Challenge.rw_startgaps_k13_laps_refuse.row.records s) x.2.abs).2.2.2.2.2.2.2.1) (HeadRun.wholeF (fun p => HeadRun.stepQ (HeadRun.denQ HeadRun.tabQ) p w) HeadRun.fenceQ 17920 PySem.Challenge.rw_startgaps_k13_laps_refuse.row.prog) = some (wideGood Sg.view) := by kernel_rfl
theorem Sg.hB9 (w : PySem.World) : Option.map (fun x => (HeadRun.seenQ Sg.view Sg.loose (PySem.importedModules PySem.Challenge.rw_startgaps_k13_laps_refuse.row.prog.main.body) (fun s => PySem.W.xlAt Sg.view [] s && PySem.W.recOk PySem.Challenge.rw_startgaps_k13_laps_refuse.row.records s) x.2.abs).2.2.2.2.2.2.2.2) (HeadRun.wholeF (fun p => HeadRun.stepQ (HeadRun.denQ HeadRun.tabQ) p w) HeadRun.fenceQ 17920 PySem.Challenge.rw_startgaps_k13_laps_refuse.row.prog) = some (clsGoodW Sg.view Sg.loose) := by kernel_rfl
theorem Sg.carry {V : PySem.Program} (e : Sg.view = V) (w : PySem.World) {as : List PySem.Addr} {c : List (Option PySem.Obj)} (hc : Option.map (fun x => List.map (HeadRun.getT x.2) as) (HeadRun.wholeF (fun p => HeadRun.stepQ (HeadRun.denQ HeadRun.tabQ) p w) HeadRun.fenceQ 17920 PySem.Challenge.rw_startgaps_k13_laps_refuse.row.prog) = some c) :
    Option.map (fun x => (HeadRun.looksF PySem.Challenge.rw_startgaps_k13_laps_refuse.row.prog x.1.heap x.2.abs, (HeadRun.seenQ V Sg.loose (PySem.importedModules PySem.Challenge.rw_startgaps_k13_laps_refuse.row.prog.main.body) (fun s => PySem.W.xlAt V [] s && PySem.W.recOk PySem.Challenge.rw_startgaps_k13_laps_refuse.row.records s) x.2.abs), List.map (HeadRun.getT x.2) as)) (HeadRun.wholeF (fun p => HeadRun.stepQ (HeadRun.denQ HeadRun.tabQ) p w) HeadRun.fenceQ 17920 PySem.Challenge.rw_startgaps_k13_laps_refuse.row.prog) = some (true, openGood V Sg.loose, c) := by
  subst e
  have eo : openGood Sg.view Sg.loose = (expectedOf Sg.view, bltViewBooted, true, true, pinGoodD (drecsOf Sg.view), plainGoodE Sg.view (looseW Sg.view Sg.loose), plainGoodD Sg.view Sg.loose, wideGood Sg.view, clsGoodW Sg.view Sg.loose) := rfl
  with_reducible refine Sg.map3 ?_ ?_ ?_
  · with_reducible exact Sg.hA w
  · rw [eo]
    with_reducible refine Sg.map9 ?_ ?_ ?_ ?_ ?_ ?_ ?_ ?_ ?_
    · with_reducible exact Sg.hB1 w
    · with_reducible exact Sg.hB2 w
    · with_reducible exact Sg.hB3 w
    · with_reducible exact Sg.hB4 w
    · with_reducible exact Sg.hB5 w
    · with_reducible exact Sg.hB6 w
    · with_reducible exact Sg.hB7 w
    · with_reducible exact Sg.hB8 w
    · with_reducible exact Sg.hB9 w
  · with_reducible exact hc
end
set_option Elab.async false
set_option linter.all false
set_option maxRecDepth 100000
set_option maxHeartbeats 4000000
namespace Sg
open PySem PySem.Spec PyProof.Rows L2
/-! ## defs that may ask for a text of data: they run outside of every such text -/
/-- a promise that holds where no text of data is being made -/
structure FnG (P : Program) (w : World) (K : PySem.W.Frag) (mg : Str → Option Value) (base : Heap) (k : Nat) (f : Addr)
    (fd : FuncData) (ps : List Str) (sp : Sp) : Prop where
  arity : ∀ vs H Q, sp vs H Q E0 → vs.length = ps.length
  go : ∀ (A : Around) (outer : List Env) (s : Shared) (H : Hp) (args : Args) (us : List Value) (vs : List V) (Q : VK),
    A.guards = some [] → Room k A → Env0 P w K mg base A outer s H → BindsTo s fd args (ps.zip us) → Vals vs us →
    sp vs H Q E0 → codeAny (model P w) A (.call (.ref f) args) (CR CX0 outer P w H s Q E0) s
section
variable {P : Program} {w : World} {K : PySem.W.Frag} {mg : Str → Option Value} {base : Heap} {k : Nat} {f : Addr}
variable {fd : FuncData} {ps : List Str} {sp : Sp}
theorem FnG.of (F : FnOk P w K mg base CX0 k f fd ps sp) : FnG P w K mg base k f fd ps sp :=
  ⟨fun vs H Q h => F.len vs H Q E0 h, fun A outer s H args us vs Q _ hr e0 hb hv h =>
    F.run A outer s H args us vs Q E0 hr e0 hb hv h⟩
theorem FnG.mono {j : Nat} (F : FnG P w K mg base j f fd ps sp) (h : j ≤ k) : FnG P w K mg base k f fd ps sp :=
  ⟨F.arity, fun A outer s H args us vs Q hg hr => F.go A outer s H args us vs Q hg (hr.mono h)⟩
/-- a def's body, where no text of data is being made -/
theorem fnG_mk {x qual : Str} {st : Stmt} {N : List Str} (F : Fun K x qual st f fd)
    (S : FnScope N ps (defScope st)) (arity : ∀ vs H Q, sp vs H Q E0 → vs.length = ps.length)
    (hbody : ∀ (cdv : Value) (A : Around) (outer : List Env) (s : Shared) (H : Hp) (vs : List V) (Q : VK),
      (A.deeper (envOfC qual (defScope st) s.heap.objs.size f cdv)).guards = some [] →
      Room k (A.deeper (envOfC qual (defScope st) s.heap.objs.size f cdv)) → sp vs H Q E0 →
      ∃ t, PSs (cxOf CX0 P w K mg base N qual (defScope st) f cdv A outer s H E0).nox (defBody st) t ∧
        t { nx := fun _ H' => Q .non H', rt := Q } (start N vs) H) :
    FnG P w K mg base (k + 1) f fd ps sp := by
  obtain ⟨oc, od, kV, doc, pm, an, cdv, ct, osl, rfl, lk, hcd⟩ := F.ex
  refine ⟨arity, ?_⟩
  intro A outer s H args us vs Q hg hr e0 hb r hsp
  have hl := arity _ _ _ hsp
  have hk0 : ∀ b o, base.get? b = some o → s.heap.get? b = some o := fun b o e => (e0.bs b o e).1
  have KX : K.In s.heap := e0.mod.kin.keeps hk0
  have lim : s.heap.NoLimit := e0.mod.nolimit.keeps hk0
  refine codeAny_call_function hr.depth (KX _ _ lk) rfl S.co S.gen rfl (PySem.W.codeRec_of KX hcd) ?_
  refine hb _ _ _ _ (wpAny_newFunctionEnv_cells S.kind ?_ ?_)
  · rintro ⟨n, v⟩ hy
    have hn := S.par n (List.of_mem_zip hy).1
    cases hn with
    | inl q => exact .inl q
    | inr q => exact .inr ⟨q, PySem.W.cellsFrom_some _ _ _ (.inl q)⟩
  · intro env he s1 x
    subst he
    refine ⟨lim.keeps x.toInCall.keep, ?_⟩
    apply codeAny_func
    obtain ⟨t, ht, hq⟩ := hbody cdv A outer s H vs Q hg (hr.deeper _) hsp
    have ht' := ht.nox
    have I := inv_start (CX := CX0) (E := E0) (cd := cdv) (qual := qual) (f := f) S hr.hd e0 hl r x
    refine wpAny_mono (ht'.run [] s1 (start N vs) H _ I hq) ?_ (fun e s' hs => hs)
    intro fl s' hs
    cases fl with
    | ret u =>
      obtain ⟨v, σ', H', J, rv, q⟩ := hs
      exact ⟨v, H', J.os, J.bare, J.base, J.hok, rv, q⟩
    | next =>
      obtain ⟨σ', H', J, q⟩ := hs
      exact ⟨V.non, H', J.os, J.bare, J.base, J.hok, rfl, q⟩
    | brk => obtain ⟨_, _, _, q⟩ := hs; exact q.elim
    | cont => obtain ⟨_, _, _, q⟩ := hs; exact q.elim
end
section
variable {X : Cx} {k : Nat} {f : Addr} {fd : FuncData} {ps : List Str} {sp : Sp} {dvs : List V} {ds : List Value}
variable {x : Str} {p pos : Pos} {e : Expr} {es : List Expr} {t : TA}
/-- f(a, ..) of such a def -/
theorem pe_callG (F : FnG X.prog X.w X.K X.mg X.base k f fd ps sp) (hgd : X.A.guards = some []) (hr : Room k X.A)
    (hg : Gl X x) (hm : X.mg x = some (.ref f)) (hk : PySem.W.keepIn X.K (.ref f) = true) (hb : Binds X.K fd ps [])
    (ha : PA X (e :: es) t) (hdb : (x == ("__debug__" : Str)) = false := by decide)
    (he : starEach (e :: es) X.env = (false, eval e X.env) :: starEach es X.env := by rfl)
    (hpl : (backTo pos (starEach es X.env)).any (·.1) = false := by rfl) :
    PE X (.Call (.Name x p) (e :: es) [] pos) (tCall sp [] E0 t) := by
  constructor
  intro pins s σ H Q I h
  refine wpAny_Call_Name_kw (ld_glob I hg hm (PySem.W.callWith_K (h₀ := X.base) I.ok.mod.kin hk ?_ he hpl) hdb)
  refine thn (ha.run pos pins s σ H _ I h) ?_
  rintro us s1 ⟨vs, H1, I1, r, q⟩
  refine ⟨I1.kIn, ?_⟩
  rw [List.append_nil] at q
  have hl : (us ++ []).length = ps.length := by rw [List.append_nil, ← r.length]; exact F.arity _ _ _ q
  have hbb := hb s1 us I1.kIn hl
  rw [List.append_nil] at hbb
  refine wpAny_call (codeAny_mono (F.go X.A X.stack s1 H1 ⟨us, []⟩ us vs Q hgd hr I1.env0 hbb r q) ?_)
  intro r' s' hq
  match r', hq with
  | .error _, hq => exact hq.elim
  | .ok (.ret _), hq => exact I1.after hq
  | .ok .next, hq => exact hq.elim
  | .ok .brk, hq => exact hq.elim
  | .ok .cont, hq => exact hq.elim
/-! ## repr of data -/
end
end Sg
set_option Elab.async false
set_option linter.all false
set_option maxRecDepth 100000
set_option maxHeartbeats 4000000
namespace Sg
open PySem PySem.Spec PyProof.Rows L2
/-! ## the law's own call -/
section
variable {P : Program} {w : World} {K : PySem.W.Frag} {mg mb : Str → Option Value} {k : Nat} {fa a : Addr}
variable {fd : FuncData} {x : Str} {sp : Sp} {s₁ : Shared} {vs : List Value} {ns : List Int}
/-- what is asked of the law's call -/
abbrev Ended (s₁ : Shared) : Result → Shared → Prop := fun r s' =>
  r = .ok (.ret (.bool true)) ∧ OldK s₁.heap s'.heap ∧ s'.os = s₁.os ∧ AllBare s'.gens
end
end Sg
set_option Elab.async false
set_option linter.all false
set_option maxRecDepth 100000
set_option maxHeartbeats 4000000
namespace PySem
open Sem (wp)
open AutoSeq1 (wpAny_loadPart')
end PySem
set_option Elab.async false
set_option linter.all false
set_option maxRecDepth 100000
set_option maxHeartbeats 4000000
namespace Sg
open PySem PySem.Spec PyProof.Rows L2
/-! ## [c for a in t for b in a for c in b], tuples all the way down -/
/-- slots that agree but for those of ws -/
def Ag (ws : List Nat) (σ σ' : L2.St) : Prop := σ'.length = σ.length ∧ ∀ j, j ∉ ws → σ'[j]? = σ[j]?
theorem Ag.refl (ws : List Nat) (σ : L2.St) : Ag ws σ σ := ⟨rfl, fun _ _ => rfl⟩
theorem Ag.trans {ws : List Nat} {a b c : L2.St} (h : Ag ws a b) (k : Ag ws b c) : Ag ws a c := ⟨k.1.trans h.1, fun j hj => (k.2 j hj).trans (h.2 j hj)⟩
theorem Ag.set {ws : List Nat} {σ : L2.St} {k : Nat} {v : Option V} (hk : k ∈ ws) : Ag ws σ (σ.set k v) := ⟨List.length_set, fun j hj => by
  rw [List.getElem?_set_ne]
  rintro rfl
  exact hj hk⟩
theorem Ag.mono {ws us : List Nat} {σ σ' : L2.St} (h : Ag ws σ σ') (k : ∀ j ∈ ws, j ∈ us) : Ag us σ σ' := ⟨h.1, fun j hj => h.2 j fun z => hj (k j z)⟩
/-- a turn of a loop of a comprehension without tests -/
def flatTurn (e : Expr) (d : Nat) (it D : Addr) (n : Str) (p pos : Pos) (bd : Sem Fin → Sem Fin) (env : Env) : Sem Fin :=
  standAt pos >>= fun _ => pyNext (.ref it) >>= fun r => match r with
    | none => pure (.done .next)
    | some v => letOwnedTupleGo (.Name n p) (.ref it) v >>= fun _ => assign (.Name n p) env v >>= fun _ =>
      bd (again (.compLoop e d (.ref it) (.ref D) env))
section
variable {Z : Cx} {elt : Expr} {gens : List Comprehension} {scope : Scope} {cpos p pos : Pos} {d k : Nat} {it D c : Addr} {n : Str} {bd : Sem Fin → Sem Fin}
variable {R : Result → Shared → Prop} {xs : List V} {pins : List (Addr × Obj)} {ws : List Nat}
theorem flat_loop (hxe : Z.xe = fun _ _ => False) (hcalm : Z.calm = true) (hN : Z.N.Nodup)
    (hturn : compTurn (.ListComp elt gens scope cpos) d (.ref it) (.ref D) Z.env = flatTurn (.ListComp elt gens scope cpos) d it D n p pos bd Z.env)
    (hk : Z.N[k]? = some n) (hloc : Loc Z.env.scope n) (hfn : Z.fn n = true ∨ Z.env.scope.names.lookup n = some .local) (hkw : k ∈ ws)
    (σ : L2.St) (G : Nat → Hp → Prop) (hG : ∀ i H, i ≤ xs.length → G i H → SqT Z.K H c xs) (hfp : ∀ H, H it = none → FpOk Z pins H it)
    (hbd : ∀ i x s σ' H, xs[i]? = some x → G i H → H it = none → Inv Z (pins ++ pinsAt [it] s.heap) σ' H s → σ'[k]? = some (some x) → Ag ws σ σ' →
      ∀ (kk : Sem Fin) (Qf : Fin → Shared → Prop) (Ef : Value → Shared → Prop),
        (∀ s' σ'' H', Inv Z (pins ++ pinsAt [it] s.heap) σ'' H' s' → Ag ws σ σ'' → G (i + 1) H' → wpAny (model Z.prog Z.w) Z.A kk Qf Ef s') → wpAny (model Z.prog Z.w) Z.A (bd kk) Qf Ef s)
    (hfin : ∀ s' σ' H', Inv Z pins σ' H' s' → Ag ws σ σ' → G xs.length H' → R (.ok .next) s')
    {s : Shared} {σ₀ : L2.St} {H₀ : Hp} (I₀ : Inv Z pins σ₀ H₀ s) (ag₀ : Ag ws σ σ₀) (g₀ : G 0 H₀) (n₀ : H₀ it = none) (st₀ : s.heap.IsTupleIter it c 0) :
    codeAny (model Z.prog Z.w) Z.A (.compLoop (.ListComp elt gens scope cpos) d (.ref it) (.ref D) Z.env) R s := by
  have T := turn_tuple (P := Z.prog) (w := Z.w) (K := Z.K) (tg := .Name n p) c it
  have hb1 : ∀ {H : Hp}, H it = none → ∀ b ∈ [it], FpOk Z pins H b := by
    intro H hn b hb
    rw [List.mem_singleton.mp hb]
    exact hfp H hn
  refine codeAny_loop rfl (fun m s' => ∃ i σ' H', Inv Z pins σ' H' s' ∧ Ag ws σ σ' ∧ G i H' ∧ H' it = none ∧ s'.heap.IsTupleIter it c i ∧ i ≤ xs.length ∧ m = xs.length - i) ?_ xs.length
    ⟨0, σ₀, H₀, I₀, ag₀, g₀, n₀, st₀, Nat.zero_le _, rfl⟩
  rintro m s1 ⟨i, σ1, H1, I1, ag1, g1, n1, st1, hi, rfl⟩
  show wpAny _ Z.A ((compTurn (.ListComp elt gens scope cpos) d (.ref it) (.ref D) Z.env).onRaise (fun x => do noteFrame x Z.env; theTreesLotGoes x)) _ _ s1
  refine wpAny_noted ?_
  rw [hturn]
  refine wpAny_bind (wpAny_standAt (wpAny_bind ?_))
  have hq := hG i H1 hi g1
  by_cases hlt : i < xs.length
  · have go := T.item Z rfl rfl rfl hcalm i pins s1 σ1 H1 (fun _ _ => False) I1 (hb1 n1) st1 ⟨xs, xs[i], hq, List.getElem?_eq_getElem hlt⟩
    refine thnF go ?_
    rintro r s2 ⟨u, rfl, h2⟩
    refine wpAny_bind (thnF h2 ?_)
    rintro _ s3 ⟨x, H3, I3, r3, ⟨eH, hy⟩, st3, n3⟩
    subst eH
    have hx : xs[i]? = some x := hy xs hq
    have n3' : H3 it = none := n3 it (List.mem_singleton.mpr rfl)
    have I3' := I3.pinned (hb1 n3') (T.obj _ _ st3)
    have ia := (pg_name (X := Z) (pos := p) hN hk hloc hfn).run _ s3 σ1 H3 x u (fun σ' H' => σ' = σ1.set k (some x) ∧ H' = H3) I3' r3 ⟨rfl, rfl⟩
    rw [hxe] at ia
    refine wpAny_bind (thnF ia ?_)
    rintro _ s4 ⟨σ4, H4, I4, rfl, rfl⟩
    obtain ⟨o, ho, hoc⟩ := T.obj _ _ st3 it (List.mem_singleton.mpr rfl)
    have pin4 := I4.pin (it, o) (List.mem_append_right _ (List.mem_append_right _ (mem_pinsAt (List.mem_singleton.mpr rfl) ho)))
    have ep : pinsAt [it] s3.heap = pinsAt [it] s4.heap := by
      unfold pinsAt
      rw [List.filterMap_cons, List.filterMap_cons, ho, pin4.1]
      rfl
    rw [ep] at I4
    have hσ4 : (σ1.set k (some x))[k]? = some (some x) := by
      have hkl : k < σ1.length := by rw [I1.len]; exact (List.getElem?_eq_some_iff.mp hk).1
      rw [List.getElem?_set_self hkl]
    refine hbd i x s4 _ _ hx g1 n3' I4 hσ4 (ag1.trans (Ag.set hkw)) _ _ _ ?_
    intro s5 σ5 H5 I5 ag5 g5
    have pin5 := I5.pin (it, o) (List.mem_append_right _ (List.mem_append_right _ (mem_pinsAt (List.mem_singleton.mpr rfl) pin4.1)))
    have st5 : s5.heap.IsTupleIter it c (i + 1) := T.keep _ _ _ st3 (by
      intro b hb o' e
      rw [List.mem_singleton.mp hb] at e ⊢
      rw [ho] at e
      rw [← Option.some.inj e]
      exact pin5.1)
    exact wpAny_pure ⟨rfl, xs.length - (i + 1), by omega, i + 1, σ5, H5, I5.unpinned, ag5, g5, pin5.2.1, st5, hlt, rfl⟩
  · have e : i = xs.length := by omega
    subst e
    have stop := T.done Z rfl rfl rfl hcalm xs.length pins s1 σ1 H1 (fun _ _ => False) I1 (hb1 n1) st1 ⟨xs, hq, Nat.le_refl _⟩
    refine thnF stop ?_
    rintro r s2 ⟨rfl, I2⟩
    exact wpAny_pure (hfin s2 σ1 H1 I2 ag1 g1)
end
/-! ### the three clauses -/
abbrev flatE (n1 n2 n3 : Str) (iter : Expr) (scope : Scope) (q1 q2 q3 a1 a2 a3 pos : Pos) : Expr :=
  .ListComp (.Name n3 a3) [⟨.Name n1 q1, iter, [], 0⟩, ⟨.Name n2 q2, .Name n1 a1, [], 0⟩, ⟨.Name n3 q3, .Name n2 a2, [], 0⟩] scope pos
section
variable {n1 n2 n3 : Str} {iter : Expr} {scope : Scope} {q1 q2 q3 a1 a2 a3 pos : Pos} {it D : Addr} {env : Env}
abbrev downBody (e i : Expr) (d : Nat) (D : Addr) (env : Env) (kk : Sem Fin) : Sem Fin := eval i env >>= fun x => standAt i.pos >>= fun _ =>
  foldedSetIterable i env x >>= fun x => holding [x] (pyIter x) >>= fun it' => runOwn (.compStart e d it' (.ref D) env) env >>= fun _ => kk
abbrev addBody (elt : Expr) (D : Addr) (env : Env) (kk : Sem Fin) : Sem Fin :=
  (eval elt env >>= fun x => call (.builtin "list.append") [.ref D, x] >>= fun _ => pure ()) >>= fun _ => kk
theorem flat_t0 : compTurn (flatE n1 n2 n3 iter scope q1 q2 q3 a1 a2 a3 pos) 0 (.ref it) (.ref D) env =
    flatTurn (flatE n1 n2 n3 iter scope q1 q2 q3 a1 a2 a3 pos) 0 it D n1 q1 iter.pos (downBody (flatE n1 n2 n3 iter scope q1 q2 q3 a1 a2 a3 pos) (.Name n1 a1) 1 D env) env := by rfl
theorem flat_t1 : compTurn (flatE n1 n2 n3 iter scope q1 q2 q3 a1 a2 a3 pos) 1 (.ref it) (.ref D) env =
    flatTurn (flatE n1 n2 n3 iter scope q1 q2 q3 a1 a2 a3 pos) 1 it D n2 q2 a1 (downBody (flatE n1 n2 n3 iter scope q1 q2 q3 a1 a2 a3 pos) (.Name n2 a2) 2 D env) env := by rfl
theorem flat_t2 : compTurn (flatE n1 n2 n3 iter scope q1 q2 q3 a1 a2 a3 pos) 2 (.ref it) (.ref D) env =
    flatTurn (flatE n1 n2 n3 iter scope q1 q2 q3 a1 a2 a3 pos) 2 it D n3 q3 a2 (addBody (.Name n3 a3) D env) env := by rfl
end
section
variable {prog : Program} {w : World} {A : Around} {R : Result → Shared → Prop} {s : Shared} {n1 n2 n3 : Str} {iter : Expr} {scope : Scope} {q1 q2 q3 a1 a2 a3 pos : Pos} {it acc : Value} {env : Env}
theorem flat_s1 (h0 : codeAny (model prog w) A (.compLoop (flatE n1 n2 n3 iter scope q1 q2 q3 a1 a2 a3 pos) 1 it acc env) R s)
    (h : wpAny (model prog w) A (pyIter it) (fun it' s' => codeAny (model prog w) A (.compLoop (flatE n1 n2 n3 iter scope q1 q2 q3 a1 a2 a3 pos) 1 it' acc env) R s') (notedBy (model prog w) A env fun x s' => R (.error x) s') s) :
    codeAny (model prog w) A (.compStart (flatE n1 n2 n3 iter scope q1 q2 q3 a1 a2 a3 pos) 1 it acc env) R s := by
  apply codeAny_of_tree
  show wpAny _ _ ((compStart (flatE n1 n2 n3 iter scope q1 q2 q3 a1 a2 a3 pos) 1 it acc env).onRaise (fun x => do noteFrame x env; standAt theWindowsPlace)) _ _ s
  apply wpAny_notedAt
  unfold compStart
  show wpAny _ _ (ask >>= _) _ _ s
  refine wpAny_bind (wpAny_askSetting (wpAny_ite ?_))
  split
  · first | exact wpAny_pure (And.intro rfl h0) | exact wpAny_bind (wpAny_pure (wpAny_pure (And.intro rfl h0)))
  · refine wpAny_bind (wpAny_rule ?_)
    show wpAny _ _ (standAt a1 >>= _) _ _ s
    exact wpAny_bind (wpAny_standAt (wpAny_bind (wpAny_mono h (fun it' s' h' => wpAny_pure (And.intro rfl h')) fun _ _ x => x)))
theorem flat_s2 (h0 : codeAny (model prog w) A (.compLoop (flatE n1 n2 n3 iter scope q1 q2 q3 a1 a2 a3 pos) 2 it acc env) R s)
    (h : wpAny (model prog w) A (pyIter it) (fun it' s' => codeAny (model prog w) A (.compLoop (flatE n1 n2 n3 iter scope q1 q2 q3 a1 a2 a3 pos) 2 it' acc env) R s') (notedBy (model prog w) A env fun x s' => R (.error x) s') s) :
    codeAny (model prog w) A (.compStart (flatE n1 n2 n3 iter scope q1 q2 q3 a1 a2 a3 pos) 2 it acc env) R s := by
  apply codeAny_of_tree
  show wpAny _ _ ((compStart (flatE n1 n2 n3 iter scope q1 q2 q3 a1 a2 a3 pos) 2 it acc env).onRaise (fun x => do noteFrame x env; standAt theWindowsPlace)) _ _ s
  apply wpAny_notedAt
  unfold compStart
  show wpAny _ _ (ask >>= _) _ _ s
  refine wpAny_bind (wpAny_askSetting (wpAny_ite ?_))
  split
  · first | exact wpAny_pure (And.intro rfl h0) | exact wpAny_bind (wpAny_pure (wpAny_pure (And.intro rfl h0)))
  · refine wpAny_bind (wpAny_rule ?_)
    show wpAny _ _ (standAt a2 >>= _) _ _ s
    exact wpAny_bind (wpAny_standAt (wpAny_bind (wpAny_mono h (fun it' s' h' => wpAny_pure (And.intro rfl h')) fun _ _ x => x)))
end
end Sg
set_option Elab.async false
set_option linter.all false
set_option maxRecDepth 100000
set_option maxHeartbeats 4000000
namespace Sg
open PySem PySem.Spec PyProof.Rows L2
/-- cells are tuples; xs are all their items -/
inductive FlatL (K : PySem.W.Frag) (H : Hp) : List V → List V → Prop
  | nil : FlatL K H [] []
  | cons {a : Addr} {ys cells xs : List V} : SqT K H a ys → FlatL K H cells xs → FlatL K H (.ref a :: cells) (ys ++ xs)
/-- rows are tuples of tuples; xs are all the items of these -/
inductive FlatR (K : PySem.W.Frag) (H : Hp) : List V → List V → Prop
  | nil : FlatR K H [] []
  | cons {a : Addr} {cells ys rows xs : List V} : SqT K H a cells → FlatL K H cells ys → FlatR K H rows xs → FlatR K H (.ref a :: rows) (ys ++ xs)
section
variable {K : PySem.W.Frag} {H : Hp}
theorem FlatL.snoc {a : Addr} {ys : List V} (h : SqT K H a ys) : ∀ {cells xs : List V}, FlatL K H cells xs → FlatL K H (cells ++ [.ref a]) (xs ++ ys)
  | _, _, .nil => by have z := FlatL.cons h .nil; rwa [List.append_nil] at z
  | _, _, .cons h1 r => by rw [List.append_assoc]; exact .cons h1 (FlatL.snoc h r)
theorem FlatR.snoc {a : Addr} {cells ys : List V} (h : SqT K H a cells) (hl : FlatL K H cells ys) : ∀ {rows xs : List V}, FlatR K H rows xs → FlatR K H (rows ++ [.ref a]) (xs ++ ys)
  | _, _, .nil => by have z := FlatR.cons h hl .nil; rwa [List.append_nil] at z
  | _, _, .cons h1 h2 r => by rw [List.append_assoc]; exact .cons h1 h2 (FlatR.snoc h hl r)
theorem FlatL.same {H' : Hp} (e : Same H H') : ∀ {cells xs : List V}, FlatL K H cells xs → FlatL K H' cells xs
  | _, _, .nil => .nil
  | _, _, .cons h r => .cons (h.imp (fun z => z.imp (e _ _) fun ⟨o, z⟩ => ⟨o, e _ _ z⟩) id) (FlatL.same e r)
theorem FlatR.same {H' : Hp} (e : Same H H') : ∀ {rows xs : List V}, FlatR K H rows xs → FlatR K H' rows xs
  | _, _, .nil => .nil
  | _, _, .cons h l r => .cons (h.imp (fun z => z.imp (e _ _) fun ⟨o, z⟩ => ⟨o, e _ _ z⟩) id) (FlatL.same e l) (FlatR.same e r)
theorem sqT_new {D a : Addr} {o : HO} {ys : List V} (n : H D = none) (h : SqT K H a ys) : SqT K (upd H D o) a ys :=
  h.imp (fun z => z.imp (fun z => by rw [upd_ne (ne_of_none z n)]; exact z) fun ⟨u, z⟩ => ⟨u, by rw [upd_ne (ne_of_none z n)]; exact z⟩) id
end
section
variable {Z : Cx} {n1 n2 n3 : Str} {iter : Expr} {scope : Scope} {q1 q2 q3 a1 a2 a3 pos : Pos} {k1 k2 k3 : Nat}
/-- what the block says of its names -/
structure FlatN (Z : Cx) (n1 n2 n3 : Str) (k1 k2 k3 : Nat) : Prop where
  xe : Z.xe = fun _ _ => False
  calm : Z.calm = true
  nd : Z.N.Nodup
  h1 : Z.N[k1]? = some n1
  h2 : Z.N[k2]? = some n2
  h3 : Z.N[k3]? = some n3
  l1 : Z.env.scope.names.lookup n1 = some .local
  l2 : Z.env.scope.names.lookup n2 = some .local
  l3 : Z.env.scope.names.lookup n3 = some .local
  d1 : (n1 == ("__debug__" : Str)) = false
  d2 : (n2 == ("__debug__" : Str)) = false
  d3 : (n3 == ("__debug__" : Str)) = false
  c1 : (n1 == ("__classdict__" : Str)) = false
  c2 : (n2 == ("__classdict__" : Str)) = false
  c3 : (n3 == ("__classdict__" : Str)) = false
/-- the innermost loop -/
theorem flat_in (B : FlatN Z n1 n2 n3 k1 k2 k3) {pins : List (Addr × Obj)} {σ : L2.St} {H : Hp} {s : Shared} {R : Result → Shared → Prop} {it D c : Addr} {acc xs : List V}
    (hn : H D = none) (hc : SqT Z.K H c xs) (hz : acc.length + xs.length ≤ 1000000) (I : Inv Z pins σ (upd H D (.lst acc)) s) (st : s.heap.IsTupleIter it c 0) (hit : (upd H D (.lst acc)) it = none)
    (hfp : ∀ H, H it = none → FpOk Z pins H it)
    (fin : ∀ s' σ', Inv Z pins σ' (upd H D (.lst (acc ++ xs))) s' → Ag [k3] σ σ' → R (.ok .next) s') :
    codeAny (model Z.prog Z.w) Z.A (.compLoop (flatE n1 n2 n3 iter scope q1 q2 q3 a1 a2 a3 pos) 2 (.ref it) (.ref D) Z.env) R s := by
  refine flat_loop B.xe B.calm B.nd flat_t2 B.h3 (.inl B.l3) (.inr B.l3) (List.mem_singleton.mpr rfl) σ (fun i H' => H' = upd H D (.lst (acc ++ xs.take i)))
    (fun i H' _ e => by rw [e]; exact sqT_new hn hc) hfp (fun i x s1 σ1 H1 hx e hi I1 hk ag kk Qf Ef cont => ?_) (fun s' σ' H' I' ag e => ?_) I (Ag.refl _ _) (by rw [List.take_zero, List.append_nil]) hit st
  · subst e
    have ev := (pe_var (pos := a3) (X := Z) B.h3 (.inl B.l3) B.d3 B.c3).run _ s1 σ1 _ (fun v H2 => v = x ∧ H2 = upd H D (.lst (acc ++ xs.take i))) I1 ⟨x, hk, rfl, rfl⟩
    rw [B.xe] at ev
    refine wpAny_bind (wpAny_bind (thnF ev ?_))
    rintro u s2 ⟨v, H2, I2, r2, rfl, rfl⟩
    have lt : (acc ++ xs.take i).length < sizeLine := by
      have h4 : sizeLine = 16777216 := sizeLine_eq
      rw [List.length_append, List.length_take]
      have := Nat.min_le_right i xs.length
      omega
    refine wpAny_bind (app_ok (X := Z) I2 upd_same lt r2 fun s3 I3 => wpAny_pure ?_)
    rw [upd_upd] at I3
    refine cont s3 σ1 _ I3 ag ?_
    rw [List.take_add_one, hx, List.append_assoc]
    rfl
  · subst e
    rw [List.take_length] at I'
    exact fin s' σ' I' ag
/-- down a level: name, iterator, loop -/
theorem flat_down {pins : List (Addr × Obj)} {σ : L2.St} {H : Hp} {s : Shared} {c : Addr} {ys : List V} {nn : Str} {aa : Pos} {e : Expr} {d k : Nat} {D : Addr} {kk : Sem Fin} {Qf : Fin → Shared → Prop} {Ef : Value → Shared → Prop}
    (hxe : Z.xe = fun _ _ => False) (hN : Z.N[k]? = some nn) (hl : Z.env.scope.names.lookup nn = some .local) (hd : (nn == ("__debug__" : Str)) = false) (hcd : (nn == ("__classdict__" : Str)) = false)
    (I : Inv Z pins σ H s) (hk : σ[k]? = some (some (.ref c))) (hq : SqT Z.K H c ys)
    (go : ∀ s1 it, Inv Z pins σ H s1 → H it = none → (∀ H, H it = none → FpOk Z pins H it) → s1.heap.IsTupleIter it c 0 →
      codeAny (model Z.prog Z.w) Z.A (.compStart e d (.ref it) (.ref D) Z.env) (fun r s' => r = .ok .next ∧ wpAny (model Z.prog Z.w) Z.A kk Qf Ef s') s1) :
    wpAny (model Z.prog Z.w) Z.A (downBody e (.Name nn aa) d D Z.env kk) Qf Ef s := by
  have ev := (pe_var (pos := aa) (X := Z) hN (.inl hl) hd hcd).run _ s σ H (fun v H2 => v = .ref c ∧ H2 = H) I ⟨.ref c, hk, rfl, rfl⟩
  rw [hxe] at ev
  refine wpAny_bind (thnF ev ?_)
  rintro u s2 ⟨v, H2, I2, r2, rfl, rfl⟩
  obtain rfl : u = Value.ref c := r2
  refine wpAny_bind (wpAny_standAt (wpAny_bind (wpAny_of_eq (a := Value.ref c) rfl (wpAny_bind (wpAny_holding ?_)))))
  obtain ⟨its, rv, p, hz⟩ := I2.tuple hq
  refine wpAny_pyIter_tuple (show s2.heap.IsTuple c its.toArray from p) ?_
  refine wpAny_bind (wpAny_runOwn ?_)
  rw [Around.mark_none]
  have I3 : Inv Z pins σ H2 { s2 with heap := s2.heap.push { cls := .type "tuple_iterator", data := .fields #[.ref c, .int 0 0] } } := I2.kept (t' := s2.toks) fun b o e => Heap.get?_push_of_some _ e
  refine codeAny_mono (go _ s2.heap.objs.size I3 (I2.hok.fresh (Nat.le_refl _)) (fun H' h => I2.fpOk (Nat.le_refl _) h) ⟨_, Heap.get?_push_size _ rfl, rfl, rfl⟩) ?_
  rintro r s' ⟨rfl, hkk⟩
  exact hkk
/-- the middle loop -/
theorem flat_mid (B : FlatN Z n1 n2 n3 k1 k2 k3) {pins : List (Addr × Obj)} {σ : L2.St} {H : Hp} {s : Shared} {R : Result → Shared → Prop} {it D c : Addr} {acc cells xs : List V}
    (hn : H D = none) (hc : SqT Z.K H c cells) (hf : FlatL Z.K H cells xs) (hz : acc.length + xs.length ≤ 1000000) (I : Inv Z pins σ (upd H D (.lst acc)) s) (st : s.heap.IsTupleIter it c 0) (hit : (upd H D (.lst acc)) it = none)
    (hfp : ∀ H, H it = none → FpOk Z pins H it)
    (fin : ∀ s' σ', Inv Z pins σ' (upd H D (.lst (acc ++ xs))) s' → Ag [k2, k3] σ σ' → R (.ok .next) s') :
    codeAny (model Z.prog Z.w) Z.A (.compLoop (flatE n1 n2 n3 iter scope q1 q2 q3 a1 a2 a3 pos) 1 (.ref it) (.ref D) Z.env) R s := by
  refine flat_loop (ws := [k2, k3]) B.xe B.calm B.nd flat_t1 B.h2 (.inl B.l2) (.inr B.l2) (List.mem_cons_self) σ
    (fun i H' => ∃ pre suf ys zs, cells = pre ++ suf ∧ pre.length = i ∧ FlatL Z.K H pre ys ∧ FlatL Z.K H suf zs ∧ xs = ys ++ zs ∧ H' = upd H D (.lst (acc ++ ys)))
    (fun i H' _ ⟨_, _, _, _, _, _, _, _, _, e⟩ => by rw [e]; exact sqT_new hn hc) hfp (fun i x s1 σ1 H1 hx e hi I1 hk ag kk Qf Ef cont => ?_) (fun s' σ' H' I' ag e => ?_) I (Ag.refl _ _)
    ⟨[], cells, [], xs, rfl, rfl, .nil, hf, rfl, by rw [List.append_nil]⟩ hit st
  · obtain ⟨pre, suf, ys, zs, ec, el, f1, f2, ex, rfl⟩ := e
    cases f2 with
    | nil =>
      rw [ec, List.append_nil, ← el, List.getElem?_eq_none (Nat.le_refl _)] at hx
      exact nomatch hx
    | @cons b bs suf' zs' hb r =>
      have xb : x = .ref b := by
        rw [ec, ← el, List.getElem?_append_right (Nat.le_refl _), Nat.sub_self] at hx
        exact (Option.some.inj hx).symm
      subst xb
      have zl : acc.length + ys.length + bs.length ≤ 1000000 := by
        rw [ex, List.length_append, List.length_append] at hz
        omega
      refine flat_down B.xe B.h2 B.l2 B.d2 B.c2 I1 hk (sqT_new hn hb) fun s2 it2 I2 n2' fp2 st2 => ?_
      have loop : codeAny (model Z.prog Z.w) Z.A (.compLoop (flatE n1 n2 n3 iter scope q1 q2 q3 a1 a2 a3 pos) 2 (.ref it2) (.ref D) Z.env) (fun r s' => r = .ok .next ∧ wpAny (model Z.prog Z.w) Z.A kk Qf Ef s') s2 := by
        refine flat_in B hn hb (by rw [List.length_append]; exact zl) I2 st2 n2' fp2 fun s3 σ3 I3 ag3 => ⟨rfl, ?_⟩
        refine cont s3 σ3 _ I3 (ag.trans (ag3.mono (by simp))) ⟨pre ++ [.ref b], suf', ys ++ bs, zs', by rw [ec, List.append_assoc]; rfl, by rw [List.length_append, el]; rfl, FlatL.snoc hb f1, r, by rw [ex, List.append_assoc], by rw [List.append_assoc]⟩
      exact flat_s2 loop (wpAny_pyIter_tupleiter st2 loop)
  · obtain ⟨pre, suf, ys, zs, ec, el, f1, f2, ex, rfl⟩ := e
    have es : suf = [] := by
      have z := congrArg List.length ec
      rw [List.length_append, el] at z
      exact List.eq_nil_of_length_eq_zero (by omega)
    subst es
    cases f2
    rw [List.append_nil] at ex
    subst ex
    exact fin s' σ' I' ag
/-- the outer loop -/
theorem flat_out (B : FlatN Z n1 n2 n3 k1 k2 k3) {σ : L2.St} {H : Hp} {s : Shared} {R : Result → Shared → Prop} {it D c : Addr} {rows xs : List V}
    (hn : H D = none) (hc : SqT Z.K H c rows) (hf : FlatR Z.K H rows xs) (hz : xs.length ≤ 1000000) (I : Inv Z [] σ (upd H D (.lst [])) s) (st : s.heap.IsTupleIter it c 0) (hit : (upd H D (.lst [])) it = none)
    (hfp : ∀ H, H it = none → FpOk Z [] H it)
    (fin : ∀ s' σ', Inv Z [] σ' (upd H D (.lst xs)) s' → R (.ok .next) s') :
    codeAny (model Z.prog Z.w) Z.A (.compLoop (flatE n1 n2 n3 iter scope q1 q2 q3 a1 a2 a3 pos) 0 (.ref it) (.ref D) Z.env) R s := by
  refine flat_loop (ws := [k1, k2, k3]) B.xe B.calm B.nd flat_t0 B.h1 (.inl B.l1) (.inr B.l1) (List.mem_cons_self) σ
    (fun i H' => ∃ pre suf ys zs, rows = pre ++ suf ∧ pre.length = i ∧ FlatR Z.K H pre ys ∧ FlatR Z.K H suf zs ∧ xs = ys ++ zs ∧ H' = upd H D (.lst ys))
    (fun i H' _ ⟨_, _, _, _, _, _, _, _, _, e⟩ => by rw [e]; exact sqT_new hn hc) hfp (fun i x s1 σ1 H1 hx e hi I1 hk ag kk Qf Ef cont => ?_) (fun s' σ' H' I' ag e => ?_) I (Ag.refl _ _)
    ⟨[], rows, [], xs, rfl, rfl, .nil, hf, rfl, rfl⟩ hit st
  · obtain ⟨pre, suf, ys, zs, ec, el, f1, f2, ex, rfl⟩ := e
    cases f2 with
    | nil =>
      rw [ec, List.append_nil, ← el, List.getElem?_eq_none (Nat.le_refl _)] at hx
      exact nomatch hx
    | @cons b bcells bs suf' zs' hb hbl r =>
      have xb : x = .ref b := by
        rw [ec, ← el, List.getElem?_append_right (Nat.le_refl _), Nat.sub_self] at hx
        exact (Option.some.inj hx).symm
      subst xb
      have zl : ys.length + bs.length ≤ 1000000 := by
        rw [ex, List.length_append, List.length_append] at hz
        omega
      refine flat_down B.xe B.h1 B.l1 B.d1 B.c1 I1 hk (sqT_new hn hb) fun s2 it2 I2 n2' fp2 st2 => ?_
      have loop : codeAny (model Z.prog Z.w) Z.A (.compLoop (flatE n1 n2 n3 iter scope q1 q2 q3 a1 a2 a3 pos) 1 (.ref it2) (.ref D) Z.env) (fun r s' => r = .ok .next ∧ wpAny (model Z.prog Z.w) Z.A kk Qf Ef s') s2 := by
        refine flat_mid B hn hb hbl zl I2 st2 n2' fp2 fun s3 σ3 I3 ag3 => ⟨rfl, ?_⟩
        refine cont s3 σ3 _ I3 (ag.trans (ag3.mono (by simp))) ⟨pre ++ [.ref b], suf', ys ++ bs, zs', by rw [ec, List.append_assoc]; rfl, by rw [List.length_append, el]; rfl, FlatR.snoc hb hbl f1, r, by rw [ex, List.append_assoc], rfl⟩
      exact flat_s1 loop (wpAny_pyIter_tupleiter st2 loop)
  · obtain ⟨pre, suf, ys, zs, ec, el, f1, f2, ex, rfl⟩ := e
    have es : suf = [] := by
      have z := congrArg List.length ec
      rw [List.length_append, el] at z
      exact List.eq_nil_of_length_eq_zero (by omega)
    subst es
    cases f2
    rw [List.append_nil] at ex
    subst ex
    exact fin s' σ' I'
end
end Sg
set_option Elab.async false
set_option linter.all false
set_option maxRecDepth 100000
set_option maxHeartbeats 4000000
namespace Sg
open PySem PySem.Spec PyProof.Rows L2
/-- [c for a in e for b in a for c in b]: e a tuple of tuples of tuples -/
def tFlat (K : PySem.W.Frag) (te : TE) : TE := fun σ H Q => te σ H fun v H1 => ∃ t rows xs, v = .ref t ∧ SqT K H1 t rows ∧ FlatR K H1 rows xs ∧ xs.length ≤ 1000000 ∧
  ∀ D, H1 D = none → Q (.ref D) (upd H1 D (.lst xs))
section
variable {X : Cx} {n1 n2 n3 : Str} {iter : Expr} {scope : Scope} {q1 q2 q3 a1 a2 a3 pos : Pos} {k1 k2 k3 : Nat} {own : List (Str × Nat)} {te : TE}
theorem pe_flat (hc : X.calm = true) (hN : X.N.Nodup) (hi : PE X iter te) (ok : BlkOk X.N X.env.scope scope own)
    (h1 : X.N[k1]? = some n1) (h2 : X.N[k2]? = some n2) (h3 : X.N[k3]? = some n3)
    (l1 : ∀ (C : Addr) (cl : List (Str × Addr)), (compEnvC scope cl C X.env).scope.names.lookup n1 = some .local)
    (l2 : ∀ (C : Addr) (cl : List (Str × Addr)), (compEnvC scope cl C X.env).scope.names.lookup n2 = some .local)
    (l3 : ∀ (C : Addr) (cl : List (Str × Addr)), (compEnvC scope cl C X.env).scope.names.lookup n3 = some .local)
    (dd : ((n1 == ("__debug__" : Str)) || (n2 == ("__debug__" : Str)) || (n3 == ("__debug__" : Str)) || (n1 == ("__classdict__" : Str)) || (n2 == ("__classdict__" : Str)) || (n3 == ("__classdict__" : Str))) = false := by decide)
    (hs : ∀ x, foldedSetIterable iter X.env x = pure x := by intro _; rfl) :
    PE X (flatE n1 n2 n3 iter scope q1 q2 q3 a1 a2 a3 pos) (tFlat X.K te) := by
  simp only [Bool.or_eq_false_iff] at dd
  obtain ⟨⟨⟨⟨⟨d1, d2⟩, d3⟩, c1⟩, c2⟩, c3⟩ := dd
  constructor
  intro pins s σ H Q I h
  rw [eval_ListComp]
  have hfree : ∀ y ∈ scope.names, y.2 = .free → ∃ c, X.env.cells.lookup y.1 = some c := by
    intro y hy e
    cases ok.free y hy e with
    | inl k => exact I.ok.has _ (.inl k)
    | inr k => exact I.ok.has _ (.inr k)
  refine wpAny_comprehension_free (use := none) rfl hs (closure_ok hfree) ok.kind (fun y hy e => by rw [ok.uniq y hy, e]) (thn (hi.run pins s σ H _ I h) ?_)
  rintro xv s1 ⟨v, H1, I1, r1, t, rows, xs, rfl, hq, hf, hz, q⟩
  obtain rfl : xv = Value.ref t := r1
  obtain ⟨its, rv, p, hzz⟩ := I1.tuple hq
  refine wpAny_pyIter_tuple (show s1.heap.IsTuple t its.toArray from p) ?_
  generalize hs2 : ({ s1 with heap := s1.heap.push { cls := .type "tuple_iterator", data := .fields #[.ref t, .int 0 0] } } : Shared) = s2
  have I2 : Inv X pins σ H1 s2 := by
    rw [← hs2]
    exact I1.kept (t' := s1.toks) fun b o e => Heap.get?_push_of_some _ e
  generalize hit : s1.heap.objs.size = it
  have st2 : s2.heap.IsTupleIter it t 0 := by
    rw [← hs2, ← hit]
    exact ⟨_, Heap.get?_push_size _ rfl, rfl, rfl⟩
  have nn2 : H1 it = none := I1.hok.fresh (Nat.le_of_eq hit)
  have lt2 : it < s2.heap.objs.size := by
    obtain ⟨_, e, _⟩ := st2
    exact Heap.lt_size e
  have f2 : ∀ H', H' it = none → FpOk X pins H' it := fun H' hn => I1.fpOk (Nat.le_of_eq hit) hn
  refine wpAny_newObj_type (newEnv_comp ?_) (by show 0 ≤ sizeLine; decide)
  generalize hD : s2.heap.objs.size = D
  have hDn : H1 D = none := I2.hok.fresh (Nat.le_of_eq hD)
  generalize hs3 : ({ s2 with heap := s2.heap.push { cls := .type "list", data := .seq ([] : List Value).toArray } } : Shared) = s3
  have I3 : Inv X pins σ (upd H1 D (.lst [])) s3 := by
    rw [← hs3]
    refine I2.laid (t' := s2.toks) (fun b o e => Heap.get?_push_of_some _ e) (Nat.le_of_eq hD) ⟨Nat.zero_le _, [], 0, .nil, ?_⟩
    rw [← hD]
    exact Heap.get?_push_size _ rfl
  have k3' : ∀ b o, s2.heap.get? b = some o → s3.heap.get? b = some o := by
    intro b o e
    rw [← hs3]
    exact Heap.get?_push_of_some _ e
  have st3 : s3.heap.IsTupleIter it t 0 := st2.at fun o e => k3' it o e
  have lt3 : it < s3.heap.objs.size := by
    obtain ⟨_, e, _⟩ := st3
    exact Heap.lt_size e
  have nit : (upd H1 D (.lst [])) it = none := by
    rw [upd_ne (by rw [← hD]; exact Nat.ne_of_lt lt2)]
    exact nn2
  have I4 := block_start (fp := [it]) I3 ok hN (by
    intro b hb
    rw [List.mem_singleton.mp hb]
    exact ⟨f2 _ nit, lt3⟩)
  show codeAny _ _ (.compStart (flatE n1 n2 n3 iter scope q1 q2 q3 a1 a2 a3 pos) 0 (.ref it) (.ref D) (compEnvC scope (cellsFrom (s3.heap.objs.size + 1) scope.names (cloFrom X.env.cells scope.names [])) s3.heap.objs.size X.env))
    (compPost (model X.prog X.w) X.A X.xe none (EP X pins σ Q) (.ref D) s3.heap.objs.size) { s3 with heap := pushCells (s3.heap.push { cls := .type "dict", data := .dict #[] }) scope.names }
  have hl1 := l1 s3.heap.objs.size (cellsFrom (s3.heap.objs.size + 1) scope.names (cloFrom X.env.cells scope.names []))
  have hl2 := l2 s3.heap.objs.size (cellsFrom (s3.heap.objs.size + 1) scope.names (cloFrom X.env.cells scope.names []))
  have hl3 := l3 s3.heap.objs.size (cellsFrom (s3.heap.objs.size + 1) scope.names (cloFrom X.env.cells scope.names []))
  have cL : (compEnvC scope (cellsFrom (s3.heap.objs.size + 1) scope.names (cloFrom X.env.cells scope.names [])) s3.heap.objs.size X.env).locals = s3.heap.objs.size := rfl
  generalize compEnvC scope (cellsFrom (s3.heap.objs.size + 1) scope.names (cloFrom X.env.cells scope.names [])) s3.heap.objs.size X.env = ce at I4 hl1 hl2 hl3 cL ⊢
  have st4 : (pushCells (s3.heap.push { cls := .type "dict", data := .dict #[] }) scope.names).IsTupleIter it t 0 :=
    st3.at fun o e => pushCells_keeps _ _ _ _ (Heap.get?_push_of_some _ e)
  generalize hs4 : ({ s3 with heap := pushCells (s3.heap.push { cls := .type "dict", data := .dict #[] }) scope.names } : Shared) = s4 at I4 ⊢
  have st4' : s4.heap.IsTupleIter it t 0 := by rw [← hs4]; exact st4
  have B : FlatN (X.blk s3 (upd H1 D (.lst [])) scope ce [it]) n1 n2 n3 k1 k2 k3 := ⟨rfl, hc, hN, h1, h2, h3, hl1, hl2, hl3, d1, d2, d3, c1, c2, c3⟩
  have fpZ : ∀ H', H' it = none → FpOk (X.blk s3 (upd H1 D (.lst [])) scope ce [it]) [] H' it := by
    intro H' hn
    refine ⟨hn, (I4.ok.exf it (List.mem_singleton.mpr rfl)).1, I4.ok.exfs it (List.mem_singleton.mpr rfl), .inl (List.mem_singleton.mpr rfl), (I4.ok.exf it (List.mem_singleton.mpr rfl)).2, ?_⟩
    intro p hp
    have hp' : p ∈ ([] : List (Addr × Obj)) ++ [] := hp
    exact nomatch hp'
  have loop : codeAny (model X.prog X.w) X.A (.compLoop (flatE n1 n2 n3 iter scope q1 q2 q3 a1 a2 a3 pos) 0 (.ref it) (.ref D) ce)
      (compPost (model X.prog X.w) X.A X.xe none (EP X pins σ Q) (.ref D) s3.heap.objs.size) s4 := by
    refine flat_out B hDn hq hf hz I4 st4' nit fpZ ?_
    intro s' σ' I5
    have I6 : Inv X pins σ (upd H1 D (.lst xs)) s' := by
      refine I3.call' (ch := [it]) I5.os I5.base I5.hok I5.bare ?_
      intro b hb
      rw [List.mem_singleton.mp hb]
      obtain ⟨_, g1, g2, g3, g4, g5⟩ := f2 _ nit
      exact ⟨g3, g1, g4, g5⟩
    have nC : (upd H1 D (.lst xs)) s3.heap.objs.size = none := by
      have z : (upd H1 D (.lst xs)) ce.locals = none := I5.free
      rw [cL] at z
      exact z
    obtain ⟨m, hn, _⟩ := I5.loc
    have hn' : s'.heap.Ns ce.locals m := hn
    rw [cL] at hn'
    refine ⟨m, hn', ?_⟩
    intro h'' sb
    obtain ⟨f0, f1, f2', f3, f4, f5⟩ := I3.fpOk (Nat.le_refl _) nC
    exact ⟨.ref D, _, I6.turned (t' := s'.toks) (fun b o hb e => (sb.2 b hb).trans e) f0 f1 f3 f4 f5, rfl, q D hDn⟩
  exact codeAny_compStart_list loop (wpAny_pyIter_tupleiter st4' loop)
end
end Sg
set_option Elab.async false
set_option linter.all false
set_option maxRecDepth 100000
set_option maxHeartbeats 4000000
namespace Sg
open PySem PySem.Spec PyProof.Rows L2
/-! ## max with a default -/
section
variable {X : Cx}
theorem cr_maxD (hc : X.calm = true) {j : Nat} (hr : Room j X.A) : CallRK X (.builtin "max") ["default"] (fun vs zs H Q => ∃ (a : Addr) (ns : List Int) (d : Int), vs = [.ref a] ∧ zs = [.int d] ∧ SqL X.K H a (ns.map V.int) ∧
    ∀ m : Int, (ns = [] → m = d) → (ns ≠ [] → m ∈ ns ∧ ∀ x ∈ ns, x ≤ m) → Q (.int m) H) := by
  intro pins s σ H xs zs us ws Q I r rz h
  obtain ⟨a, ns, d, rfl, rfl, hs, q⟩ := h
  obtain ⟨u, rfl, rfl⟩ := vals1 r
  obtain ⟨dv, rfl, td, rfl⟩ := vals1 rz
  obtain ⟨its, rv, hl, hzz⟩ := I.list hs
  have dp : DpAll X.K H (ns.map V.int) (ns.map PyData.int) := by
    clear hs q rv hl hzz
    induction ns with
    | nil => exact .nil
    | cons x r ih => exact .cons (.int x) ih
  obtain ⟨as, rd⟩ := Dp.readsAll I (ns.map PyData.int) _ its dp rv
  have al : PySem.W.AlikeAll (ns.map PyData.int) := by
    constructor
    · intro x hx y hy
      obtain ⟨i, _, rfl⟩ := List.mem_map.mp hx
      obtain ⟨j, _, rfl⟩ := List.mem_map.mp hy
      rfl
    · intro x hx z
      obtain ⟨i, _, rfl⟩ := List.mem_map.mp hx
      exact nomatch z
  have dep : PyData.depthAll (ns.map PyData.int) = 0 := by
    clear hs q rv hl rd al dp hzz
    induction ns with
    | nil => rfl
    | cons x r ih =>
      show max (PyData.depth (.int x)) (PyData.depthAll (r.map PyData.int)) = 0
      rw [ih]; rfl
  have hu := hr.units
  refine PySem.W.max_list_default (I.ok.hd hc) hl.isList (by simpa using rd) al (by rw [dep]; omega) (fun e h' tk hk => ?_) (fun y ys i v h' tk bs e hv hrd hk => ?_)
  · exact ⟨.int d, H, I.kept hk, ⟨_, rfl⟩, q d (fun _ => rfl) (fun z => absurd (List.map_eq_nil_iff.mp e) z)⟩
  · cases ns with
    | nil => exact nomatch e
    | cons n ns' =>
      obtain ⟨e1, e2⟩ := List.cons.inj e
      subst e1 e2
      rw [PySem.W.maxD_ints] at hrd
      cases hrd
      refine ⟨.int _, H, I.kept hk, ⟨_, rfl⟩, q _ (fun z => nomatch z) (fun _ => ?_)⟩
      have key : ∀ (l : List Int) (a : Int), (l.foldl max a = a ∨ l.foldl max a ∈ l) ∧ a ≤ l.foldl max a ∧ ∀ x ∈ l, x ≤ l.foldl max a := by
        intro l
        induction l with
        | nil => intro a; exact ⟨.inl rfl, Int.le_refl _, fun x hx => nomatch hx⟩
        | cons b l ih =>
          intro a
          obtain ⟨g1, g2, g3⟩ := ih (max a b)
          refine ⟨?_, by show a ≤ l.foldl max (max a b); omega, fun x hx => ?_⟩
          · show l.foldl max (max a b) = a ∨ l.foldl max (max a b) ∈ b :: l
            rcases g1 with g | g
            · rcases Int.le_total a b with z | z
              · right; rw [g, Int.max_eq_right z]; exact List.mem_cons_self
              · left; rw [g, Int.max_eq_left z]
            · exact .inr (List.mem_cons_of_mem _ g)
          · show x ≤ l.foldl max (max a b)
            rcases List.mem_cons.mp hx with rfl | z
            · omega
            · exact g3 x z
      obtain ⟨g1, g2, g3⟩ := key ns' n
      refine ⟨?_, fun x hx => ?_⟩
      · rcases g1 with g | g
        · rw [g]; exact List.mem_cons_self
        · exact List.mem_cons_of_mem _ g
      · rcases List.mem_cons.mp hx with rfl | z
        · exact g2
        · exact g3 x z
end
/-! ## operators of one's own -/
section
variable {X : Cx} {k : Nat} {C g : Addr} {fd : FuncData} {ps : List Str} {sp : Sp}
/-- an instance of C -/
def InsAt (H : Hp) (C a : Addr) : Prop := ∃ dx fs, H a = some (.ins C dx fs)
theorem insAt_look {pins : List (Addr × Obj)} {σ : L2.St} {H : Hp} {s : Shared} {a : Addr} (I : Inv X pins σ H s) (h : InsAt H C a) : ∃ ox od, PySem.W.InstAt s.heap a ox C od := by
  obtain ⟨dx, fs, h⟩ := h
  obtain ⟨mA, O, _⟩ := ins_get I.hok h
  obtain ⟨od, J, _⟩ := O.look
  exact ⟨_, _, J⟩
/-- a def called one C frame further in -/
theorem run_in1 {pins : List (Addr × Obj)} {σ : L2.St} {H : Hp} {s : Shared} {Q : VK} {us : List Value} {vs : List V} (F : FnOk X.prog X.w X.K X.mg X.base CX0 k g fd ps sp) (hr : Room (k + 1) X.A) (hb : Binds X.K fd ps [])
    (I : Inv X pins σ H s) (r : Vals vs us) (h : sp vs H Q E0) {E : Value → Shared → Prop} : wpAny (model X.prog X.w) X.A.in1 (call (.ref g) us) (EP X pins σ Q) E s := by
  have hl : (us ++ []).length = ps.length := by rw [List.append_nil, ← r.length]; exact F.len _ _ _ _ h
  have hbb := hb s us I.kIn hl
  rw [List.append_nil] at hbb
  refine wpAny_call (codeAny_mono (F.run X.A.in1 X.stack s H ⟨us, []⟩ us vs Q E0 hr.in1 I.env0.in1 hbb r h) ?_)
  intro r' s' hq
  match r', hq with
  | .error _, hq => exact hq.elim
  | .ok (.ret _), hq => exact I.after hq
  | .ok .next, hq => exact hq.elim
  | .ok .brk, hq => exact hq.elim
  | .ok .cont, hq => exact hq.elim
/-- len(a) -/
theorem call_lenO (F : FnOk X.prog X.w X.K X.mg X.base CX0 k g fd ps sp) (hr : Room (k + 1) X.A) (hb : Binds X.K fd ps []) (hs : PySem.W.findIn X.K (.ref C) "__len__" = some (some (.ref g))) (hf : PySem.W.isFn X.K (.ref g) = true) :
    CallR X (.builtin "len") (fun xs H Q => ∃ a, xs = [.ref a] ∧ InsAt H C a ∧ sp [.ref a] H (fun v H' => ∃ n : Nat, v = .int n ∧ n < 1000000 ∧ Q (.int n) H') E0) := by
  intro pins s σ H xs us Q I r h
  obtain ⟨a, rfl, ha, h⟩ := h
  obtain ⟨u, rfl, rfl⟩ := vals1 r
  obtain ⟨m, hF⟩ := I.fr
  obtain ⟨_, _, J⟩ := insAt_look I ha
  refine PySem.W.len_K hF I.ok.mod.kin J hs hf (thn (run_in1 (us := [.ref a]) (vs := [.ref a]) F hr hb I (.cons rfl .nil) h) ?_)
  rintro v s' ⟨x, H', I', rx, n, rfl, hn, q⟩
  obtain ⟨t, rfl⟩ := rx
  exact ⟨⟨by omega, by omega⟩, ⟨.int n, H', I'.tok _, ⟨_, rfl⟩, q⟩⟩
/-- the same as an FnR -/
theorem fnR_of {P : Program} {w : World} {K : PySem.W.Frag} {mg : Str → Option Value} {base : Heap} (F : FnOk P w K mg base CX0 k g fd ps sp) (hb : Binds K fd ps []) : FnR P w K mg base CX0 k g sp := by
  intro A outer s H us vs Q E hr e0 r h
  have hl : (us ++ []).length = ps.length := by rw [List.append_nil, ← r.length]; exact F.len _ _ _ _ h
  have KX : K.In s.heap := e0.mod.kin.keeps fun b o e => (e0.bs b o e).1
  have hbb := hb s us KX hl
  rw [List.append_nil] at hbb
  exact F.run A outer s H ⟨us, []⟩ us vs Q E hr e0 hbb r h
end
end Sg
set_option Elab.async false
set_option linter.all false
set_option maxRecDepth 100000
set_option maxHeartbeats 4000000
set_option Elab.async false
set_option linter.all false
set_option maxRecDepth 100000
set_option maxHeartbeats 4000000
namespace Sg
open PySem PySem.Spec PyProof.Rows L2 HT
/-! ## t[::-1] of a tuple -/
section
variable {prog : Program} {w : World} {A : Around} {E : Value → Shared → Prop} {s : Shared}
theorem slicePlaces_rev (n : Nat) : Builtin.Slice.slicePlaces ((n : Int) - 1) (-1) (-1) = n := by
  unfold Builtin.Slice.slicePlaces
  have h1 : ¬ ((-1 : Int) > 0) := by omega
  simp only [h1, if_false, Int.neg_neg, Int.ediv_one]
  split <;> omega
theorem sliceApplied_rev {sl : Addr} {vl vu vs : Value} {n : Nat} {Q : Int × Int × Nat → Shared → Prop} (hs : s.heap.IsSliceOf sl vl vu vs) (pl : IsPart vl none) (pu : IsPart vu none) (ps : IsPart vs (some (-1)))
    (h : Q ((n : Int) - 1, -1, n) s) : wpAny (model prog w) A (Builtin.Slice.sliceApplied (.ref sl) (pure (n : Int))) Q E s := by
  obtain ⟨os, hos, hcs, hds⟩ := id hs
  unfold Builtin.Slice.sliceApplied Builtin.Slice.sliceFields
  refine wpAny_bind (wpAny_bind (wpAny_field hos hds (x := vl) rfl (wpAny_bind (wpAny_field hos hds (x := vu) rfl (wpAny_bind (wpAny_field hos hds (x := vs) rfl (wpAny_pure ?_)))))))
  refine wpAny_bind (slicePart_ ps ?_)
  show wpAny _ _ (if ((-1 : Int) == 0) = true then _ else _) _ _ s
  rw [if_neg (by decide)]
  refine wpAny_bind (slicePart_ pl (wpAny_bind (slicePart_ pu (wpAny_bind (wpAny_pure ?_)))))
  show wpAny _ _ (pure ((n : Int) - 1, (-1 : Int), Builtin.Slice.slicePlaces ((n : Int) - 1) (-1) (-1))) _ _ s
  rw [slicePlaces_rev]
  exact wpAny_pure h
theorem filterMap_on {α β : Type} {f g : α → Option β} : ∀ {l : List α}, (∀ x ∈ l, f x = g x) → l.filterMap f = l.filterMap g
  | [], _ => rfl
  | x :: r, h => by
    rw [List.filterMap_cons, List.filterMap_cons, h x List.mem_cons_self, filterMap_on fun y hy => h y (List.mem_cons_of_mem _ hy)]
theorem pick_rev (xs : Array Value) : ((List.range xs.size).filterMap fun (m : Nat) => xs[(((xs.size : Int) - 1) + (m : Int) * (-1)).toNat]?).toArray = xs.toList.reverse.toArray := by
  have e1 : ∀ m ∈ List.range xs.size, xs[(((xs.size : Int) - 1) + (m : Int) * (-1)).toNat]? = xs[xs.size - 1 - m]? := by
    intro m hm
    have := List.mem_range.mp hm
    rw [show (((xs.size : Int) - 1) + (m : Int) * (-1)).toNat = xs.size - 1 - m from by omega]
  have e2 : ((List.range xs.size).map fun k => xs.size - 1 - k).filterMap (xs[·]?) = xs.toList.reverse := by
    rw [PySem.W.krv_range, List.filterMap_reverse, PySem.W.krv_all]
  rw [List.filterMap_map] at e2
  rw [← e2]
  congr 1
  exact filterMap_on (fun m hm => e1 m hm)
theorem getItem_tuple_rev {t sl : Addr} {items : Array Value} {vl vu vs : Value} {Q : Value → Shared → Prop} (ht : IsTup s.heap t items) (hs : s.heap.IsSliceOf sl vl vu vs) (pl : IsPart vl none) (pu : IsPart vu none) (ps : IsPart vs (some (-1)))
    (h : Q (.ref s.heap.objs.size) { s with heap := s.heap.push { cls := .type "tuple", data := .seq items.toList.reverse.toArray } })
    (hsz : items.size ≤ sizeLine) : wpAny (model prog w) A (getItem (.ref t) (.ref sl)) Q E s := by
  have htake : sizeOk (.seq items.toList.reverse.toArray) := by
    show items.toList.reverse.toArray.size ≤ sizeLine
    rw [List.size_toArray, List.length_reverse, Array.length_toList]
    exact hsz
  obtain ⟨os, hos, hcs, hds⟩ := id hs
  have hTs : s.TypeIs (.ref sl) "slice" := ⟨os, hos, hcs⟩
  unfold getItem
  try with_reducible refine wpAny_holding ?_
  first | refine wpAny_bind (wpAny_pure ?_) | skip
  refine wpAny_bind (wpAny_sequenceKey ht.typeIs (by decide) ?_)
  refine wpAny_bind (wpAny_callSpecial?_slot (name := Str.ofString "__getitem__") ht.typeIs PyProof.Rows.slot_tuple_getitem
    (wpAny_call_entry PyProof.Rows.slot_tuple_getitem ht.typeIs entry_tuple_getitem ?_ (args_tuple_getitem _ _)))
  show wpAny _ _ (Builtin.Tuple.tupleItemsOf (.ref t) >>= _) _ _ s
  refine wpAny_bind (tupleItemsOf_ ht ?_)
  refine wpAny_bind (wpAny_typeOf hTs ?_)
  rw [if_pos (by decide)]
  refine wpAny_bind (sliceApplied_rev hs pl pu ps ?_)
  have hno : ¬ ((((items.size : Int) - 1) == 0 && (-1 : Int) == 1 && items.size == items.size) = true) := by
    rw [show ((-1 : Int) == 1) = false from by decide, Bool.and_false, Bool.false_and]
    exact Bool.false_ne_true
  show wpAny _ _ (if (((items.size : Int) - 1) == 0 && (-1 : Int) == 1 && items.size == items.size) = true then _ else _) _ _ s
  rw [if_neg hno, pick_rev]
  first
    | exact wpAny_bind (m := Builtin.Tuple.tupleExact _) (wpAny_newObj_type (wpAny_pure ⟨_, rfl, wpAny_pure h⟩) htake)
    | exact wpAny_bind (m := Builtin.Tuple.tupleExact _) (wpAny_newObj_type (wpAny_bind (wpAny_pure (wpAny_pure ⟨_, rfl, wpAny_pure h⟩))) htake)
    | exact wpAny_bind (wpAny_bind (m := Builtin.Tuple.tupleExact _) (wpAny_newObj_type (wpAny_pure (wpAny_pure ⟨_, rfl, wpAny_pure h⟩)) htake))
    | exact wpAny_bind (wpAny_bind (m := Builtin.Tuple.tupleExact _) (wpAny_newObj_type (wpAny_pure ⟨_, rfl, wpAny_pure h⟩) htake))
end
def tRevT (K : PySem.W.Frag) (te : TE) : TE := fun σ H Q => te σ H fun x H1 => ∃ a xs, x = .ref a ∧ SqT K H1 a xs ∧ ∀ p, H1 p = none → Q (.ref p) (upd H1 p (.tup xs.reverse))
theorem pe_revT {X : Cx} {K : PySem.W.Frag} {e : Expr} {te : TE} {k : Nat} {p1 p2 p3 pos : Pos} (hK : X.K = K) (he : PE X e te) : PE X (.Subscript e (.Slice none none (some (.UnaryOp .USub (.Constant (.int 1) k p1) p2)) p3) pos) (tRevT K te) := by
  subst hK
  refine ⟨fun pins s σ H Q I h => ?_⟩
  refine Subscript_ (thn (he.run pins s σ H _ I h) fun v s1 ⟨x, H1, I1, r1, q1⟩ => ?_)
  obtain ⟨a, xs, ex, hx, q⟩ := q1
  subst ex
  cases r1
  have hst : PO X (some (.UnaryOp .USub (.Constant (.int 1) k p1) p2)) (tPart (tUn (rU fun i => .int (-i)) (tC (.int 1)))) := po_some (pe_un un_neg pe_int)
  refine wpAny_Slice (thn (po_none.run pins s1 σ H1 (fun o H2 => o = none ∧ H2 = H1) I1 ⟨rfl, rfl⟩) fun vl s2 ⟨l, H2, I2, pl, el, e2⟩ => ?_)
  subst el e2
  refine thn (po_none.run pins s2 σ H2 (fun o H3 => o = none ∧ H3 = H2) I2 ⟨rfl, rfl⟩) fun vu s3 ⟨u, H3, I3, pu, eu, e3⟩ => ?_
  subst eu e3
  refine thn (hst.run pins s3 σ H3 (fun o H4 => o = some (-1) ∧ H4 = H3) I3 ⟨1, rfl, -1, rfl, rfl, rfl⟩) fun vs s4 ⟨o, H4, I4, ps, eo, e4⟩ => ?_
  subst eo e4
  have I5 : Inv X pins σ H4 { s4 with heap := s4.heap.push { cls := .type "slice", data := .fields #[vl, vu, vs] } } := I4.kept (t' := s4.toks) fun b ob q => Heap.get?_push_of_some _ q
  obtain ⟨its, r, ht, hz⟩ := I5.tuple hx
  have hlen := r.length
  show wpAny (model X.prog X.w) X.A (subscriptTail e (.Slice none none (some (.UnaryOp .USub (.Constant (.int 1) k p1) p2)) p3) (.ref a) (.ref s4.heap.objs.size)) (EP X pins σ Q) X.xe { s4 with heap := s4.heap.push { cls := .type "slice", data := .fields #[vl, vu, vs] } }
  refine tail_any (ops := [.ref a, .ref s4.heap.objs.size]) ht.typeIs PyProof.Rows.slot_tuple_getitem.lookup ?_ (by with_unfolding_all rfl)
  refine getItem_tuple_rev ht (Heap.IsSliceOf.new _ vl vu vs) pl pu ps ?_ (by rw [List.size_toArray]; omega)
  refine ⟨.ref _, _, I5.laid (t' := s4.toks) (o := .tup xs.reverse) (fun b ob q => Heap.get?_push_of_some _ q) (Nat.le_refl _) ?_, rfl, q _ (I5.hok.fresh (Nat.le_refl _))⟩
  exact ⟨by rw [List.length_reverse]; exact hz, _, r.reverse, IsTup.new _ _⟩
end Sg
set_option Elab.async false
set_option linter.all false
set_option maxRecDepth 100000
set_option maxHeartbeats 4000000
set_option Elab.async false
set_option linter.all false
set_option maxRecDepth 100000
set_option maxHeartbeats 4000000
set_option Elab.async false
set_option linter.all false
set_option maxRecDepth 100000
set_option maxHeartbeats 4000000
set_option Elab.async false
set_option linter.all false
set_option maxRecDepth 100000
set_option maxHeartbeats 4000000
namespace Sg
open PySem PySem.Spec PyProof.Rows L2
/-! ## heaps -/
/-- all but p is as it was -/
def But (p : Addr) (H H' : Hp) : Prop := ∀ q o, q ≠ p → H q = some o → H' q = some o
theorem But.trans {p : Addr} {H H1 H2 : Hp} (a : But p H H1) (b : But p H1 H2) : But p H H2 := fun q o n h => b q o n (a q o n h)
theorem But.of {p : Addr} {H H' : Hp} (a : Same H H') : But p H H' := fun q o _ h => a q o h
theorem But.upd {p : Addr} {H : Hp} {o : HO} : But p H (upd H p o) := fun q u n h => by rw [upd_ne n]; exact h
theorem same_new {H : Hp} {p : Addr} {o : HO} (h : H p = none) : Same H (upd H p o) := fun b x e => by
  rw [upd_ne (ne_of_none e h)]
  exact e
/-- what is new behind a But is new ahead -/
theorem But.free {p q : Addr} {H H' : Hp} {u : HO} (e : But p H H') (hp : H p = some u) (hp' : ∃ v, H' p = some v) (h : H' q = none) : H q = none := by
  by_cases n : q = p
  · subst n
    obtain ⟨v, hv⟩ := hp'
    rw [hv] at h
    exact nomatch h
  · rcases z : H q with _ | o
    · rfl
    · rw [e q o n z] at h
      exact nomatch h
theorem But.tup {K : PySem.W.Frag} {p : Addr} {H H' : Hp} {a : Addr} {xs ys : List V} (e : But p H H') (hp : H p = some (.lst ys)) (h : SqT K H a xs) : SqT K H' a xs := by
  rcases h with (h | ⟨o, h⟩) | h
  · exact .inl (.inl (e _ _ (ne_of h hp (fun z => nomatch z)) h))
  · exact .inl (.inr ⟨o, e _ _ (ne_of h hp (fun z => nomatch z)) h⟩)
  · exact .inr h
theorem Same.tup {K : PySem.W.Frag} {H H' : Hp} {a : Addr} {xs : List V} (e : Same H H') (h : SqT K H a xs) : SqT K H' a xs := by
  rcases h with (h | ⟨o, h⟩) | h
  · exact .inl (.inl (e _ _ h))
  · exact .inl (.inr ⟨o, e _ _ h⟩)
  · exact .inr h
/-- a pen at p -/
def PenAt (H : Hp) (p : Addr) : Prop := ∃ a b c : Int, H p = some (.lst [.int a, .int b, .int c]) ∧ 0 ≤ b ∧ b < 2147483648
theorem PenAt.same {H H' : Hp} {p : Addr} (h : PenAt H p) (e : Same H H') : PenAt H' p := by
  obtain ⟨a, b, c, h1, h2⟩ := h
  exact ⟨a, b, c, e _ _ h1, h2⟩
theorem PenAt.tup {K : PySem.W.Frag} {p : Addr} {H H' : Hp} {a : Addr} {xs : List V} (h : PenAt H p) (e : But p H H') (q : SqT K H a xs) : SqT K H' a xs := by
  obtain ⟨_, _, _, h1, _⟩ := h
  exact e.tup h1 q
theorem PenAt.free {p q : Addr} {H H' : Hp} (h : PenAt H p) (h' : PenAt H' p) (e : But p H H') (n : H' q = none) : H q = none := by
  obtain ⟨_, _, _, h1, _⟩ := h
  obtain ⟨_, _, _, h2, _⟩ := h'
  exact e.free h1 ⟨_, h2⟩ n
theorem atI0 {x : V} {r : List V} : atI (x :: r) 0 = some x := atI_nat (j := 0) rfl
theorem atI1 {x y : V} {r : List V} : atI (x :: y :: r) 1 = some y := atI_nat (j := 1) rfl
theorem atI2 {x y z : V} {r : List V} : atI (x :: y :: z :: r) 2 = some z := atI_nat (j := 2) rfl
end Sg
set_option Elab.async false
set_option linter.all false
set_option maxRecDepth 100000
set_option maxHeartbeats 4000000
namespace Sg
open PySem PySem.Spec PyProof.Rows L2
/-! ## the mathematics of bars -/
/-- a work, as its items -/
structure IsWork (ns : List Int) : Prop where
  pos : 1 ≤ ns.length
  most : ns.length ≤ 60
  items : ∀ x ∈ ns, -1 ≤ x ∧ x ≤ 9
  head : ∀ x, ns[0]? = some x → x ≠ -1
  last : ∀ x, ns[ns.length - 1]? = some x → x ≠ -1
/-- a piece of other, d ticks behind one of one, clashes with it -/
def clashB (one other : List Int) (d : Nat) : Bool := ((one.drop d).zip other).any fun p => p.1 == p.2 && p.1 != -1
def barsN (one other : List Int) : List Nat := (List.range' 1 (one.length - 1)).filter (clashB one other)
/-! ### lists step by step -/
theorem filter_range'_succ (f : Nat → Bool) (a n : Nat) : (List.range' a (n + 1)).filter f = (List.range' a n).filter f ++ (if f (a + n) = true then [a + n] else []) := by
  rw [List.range'_concat, List.filter_append, Nat.one_mul]
  congr 1
  by_cases h : f (a + n) = true
  · rw [if_pos h, List.filter_cons_of_pos h]; rfl
  · rw [if_neg h, List.filter_cons_of_neg h]; rfl
/-- the bars found below 1 + n -/
def barsTo (one other : List Int) (n : Nat) : List Nat := (List.range' 1 n).filter (clashB one other)
theorem barsTo_len (one other : List Int) (n : Nat) : (barsTo one other n).length ≤ n := by
  unfold barsTo
  refine Nat.le_trans (List.length_filter_le _ _) ?_
  rw [List.length_range']
  exact Nat.le_refl _
abbrev nV (l : List Nat) : List V := l.map fun d => V.int (d : Nat)
theorem barsTo_yes {one other : List Int} {n : Nat} (h : clashB one other (1 + n) = true) : nV (barsTo one other (n + 1)) = nV (barsTo one other n) ++ [.int ((1 : Int) + n)] := by
  unfold nV barsTo
  rw [filter_range'_succ, if_pos h, List.map_append]
  have e : (((1 + n : Nat) : Int)) = (1 : Int) + n := by omega
  simp only [List.map_cons, List.map_nil, e]
theorem barsTo_no {one other : List Int} {n : Nat} (h : clashB one other (1 + n) = false) : barsTo one other (n + 1) = barsTo one other n := by
  unfold barsTo
  rw [filter_range'_succ, if_neg (by rw [h]; exact Bool.false_ne_true), List.append_nil]
/-- the pairs of a zip, looked at in turn -/
def hitsTo (one other : List Int) (d n : Nat) : List Bool := (((one.drop d).zip other).take n).map fun p => p.1 == p.2 && p.1 != -1
theorem hits_any (one other : List Int) (d : Nat) : (hitsTo one other d (min (one.drop d).length other.length)).any id = clashB one other d := by
  unfold hitsTo clashB
  rw [List.take_of_length_le (by rw [List.length_zip]; exact Nat.le_refl _), List.any_map]
  rfl
theorem hits_succ {one other : List Int} {d n : Nat} {x y : Int} (h1 : (one.drop d)[n]? = some x) (h2 : other[n]? = some y) : hitsTo one other d (n + 1) = hitsTo one other d n ++ [x == y && x != -1] := by
  unfold hitsTo
  rw [List.take_add_one, List.getElem?_zip_eq_some (z := (x, y)) |>.mpr ⟨h1, h2⟩, List.map_append]
  rfl
theorem hits_len (one other : List Int) (d n : Nat) : (hitsTo one other d n).length ≤ n := by
  unfold hitsTo
  rw [List.length_map, List.length_take]
  exact Nat.min_le_left _ _
end Sg
set_option Elab.async false
set_option linter.all false
set_option maxRecDepth 100000
set_option maxHeartbeats 4000000
namespace Sg
open PySem PySem.Spec PyProof.Rows L2
theorem walk_zipT {K : PySem.W.Frag} {a b : Addr} {xs ys : List V} {n : Nat} (hn : n = min xs.length ys.length) :
    Walk (RZ.ItzT K a b) n (fun H => SqT K H a xs ∧ SqT K H b ys) (YPair (fun i => xs[i]?) (fun i => ys[i]?)) := by
  subst hn
  constructor
  · intro i H hi q
    have h1 : i < xs.length := by omega
    have h2 : i < ys.length := by omega
    exact ⟨xs, ys, xs[i], ys[i], q.1, q.2, List.getElem?_eq_getElem h1, List.getElem?_eq_getElem h2⟩
  · intro H q
    exact ⟨xs, ys, q.1, q.2, by omega⟩
  · rintro i H v H' hi q ⟨T, x, z, h1, h2, h3, h4, h5⟩
    exact ⟨T, x, z, h1, h2, h3, h4 xs q.1, h5 ys q.2⟩
theorem cut_from (xs : List V) (d : Nat) : cutV xs (some (d : Int)) none = xs.drop d := by
  unfold cutV
  rw [HT.sIx_nat, HT.sIx_none]
  rcases Nat.le_total d xs.length with h | h
  · rw [Nat.min_eq_left h]
    exact List.take_of_length_le (by rw [List.length_drop]; exact Nat.le_refl _)
  · rw [Nat.min_eq_right h, List.drop_of_length_le (Nat.le_refl _), List.drop_of_length_le h]
    exact List.take_nil
section
variable {P : Program} {w : World} {K : PySem.W.Frag} {mg : Str → Option Value} {base : Heap}
theorem tyT {H : Hp} {a : Addr} {xs : List V} (h : SqT K H a xs) : TyX K H (.ref a) (.type "tuple") := by
  rcases h with (h | ⟨o, h⟩) | ⟨o, _, _, h, hc, _⟩
  · exact .base (.tup h)
  · exact .fTuple h
  · exact .kTuple h hc
/-- the module's numbers -/
structure Nums (mg : Str → Option Value) : Prop where
  nowhere : ∃ t, mg "NOWHERE" = some (.int (-1) t)
  stations : ∃ t, mg "STATIONS" = some (.int 10 t)
  most : ∃ t, mg "MOST_ITEMS" = some (.int 60 t)
def inR (x : Int) : Bool := decide (-1 ≤ x) && decide (x ≤ 9)
end
end Sg
set_option Elab.async false
set_option linter.all false
set_option maxRecDepth 100000
set_option maxHeartbeats 4000000
namespace Sg
open PySem PySem.Spec PyProof.Rows L2
/-! ## data that is shown -/
/-- data made of small ints, in lists and tuples, no deeper than n, of bulk b at most -/
structure Small (d : PyData) (n b : Nat) : Prop where
  sh : d.showable = true
  nd : d.hasDict = false
  dp : d.depth ≤ n
  lv : d.leavesShort 15 = true
  bk : d.bulk ≤ b
  ly : d.canLay0 = true
structure SmallAll (ds : List PyData) (n b : Nat) : Prop where
  sh : PyData.showableAll ds = true
  nd : PyData.hasDictAll ds = false
  dp : PyData.depthAll ds ≤ n
  lv : PyData.leavesShortAll 15 ds = true
  bk : PyData.bulkAll ds ≤ b
  ly : PyData.canLayAll0 ds = true
theorem Small.shaped {d : PyData} {n b : Nat} (h : Small d n b) (hn : n ≤ 64) : SeqAt.shaped d = true := by
  unfold SeqAt.shaped
  rw [h.ly, decide_eq_true (Nat.le_trans h.dp hn)]
  rfl
theorem Small.list {ds : List PyData} {n b : Nat} (h : SmallAll ds n b) : Small (.list ds) (n + 1) b :=
  ⟨by simpa only [PyData.showable] using h.sh, by simpa only [PyData.hasDict] using h.nd, by simpa only [PyData.depth] using Nat.succ_le_succ h.dp,
    by simpa only [PyData.leavesShort] using h.lv, by simpa only [PyData.bulk] using h.bk, by simpa only [PyData.canLay0] using h.ly⟩
theorem Small.tuple {ds : List PyData} {n b : Nat} (h : SmallAll ds n b) : Small (.tuple ds) (n + 1) b :=
  ⟨by simpa only [PyData.showable] using h.sh, by simpa only [PyData.hasDict] using h.nd, by simpa only [PyData.depth] using Nat.succ_le_succ h.dp,
    by simpa only [PyData.leavesShort] using h.lv, by simpa only [PyData.bulk] using h.bk, by simpa only [PyData.canLay0] using h.ly⟩
theorem SmallAll.nil {n b : Nat} : SmallAll [] n b := ⟨by simp only [PyData.showableAll], by simp only [PyData.hasDictAll], by simp only [PyData.depthAll]; exact Nat.zero_le _,
  by simp only [PyData.leavesShortAll], by simp only [PyData.bulkAll]; exact Nat.zero_le _, by simp only [PyData.canLayAll0]⟩
theorem SmallAll.cons {d : PyData} {ds : List PyData} {n b c : Nat} (h : Small d n b) (r : SmallAll ds n c) : SmallAll (d :: ds) n (b + 1 + c) :=
  ⟨by simp only [PyData.showableAll, h.sh, r.sh, Bool.and_self], by simp only [PyData.hasDictAll, h.nd, r.nd, Bool.or_self], by simp only [PyData.depthAll]; exact Nat.max_le.mpr ⟨h.dp, r.dp⟩,
    by simp only [PyData.leavesShortAll, h.lv, r.lv, Bool.and_self], by simp only [PyData.bulkAll]; have h1 := h.bk; have h2 := r.bk; omega, by simp only [PyData.canLayAll0, h.ly, r.ly, Bool.and_self]⟩
theorem Small.int {i : Int} {n b : Nat} (h1 : -99999999999999 ≤ i) (h2 : i ≤ 99999999999999) : Small (.int i) n b := by
  refine ⟨?_, by simp only [PyData.hasDict], by simp only [PyData.depth]; exact Nat.zero_le _, ?_, by simp only [PyData.bulk]; exact Nat.zero_le _, by simp only [PyData.canLay0]⟩
  · simp only [PyData.showable, decide_eq_true_eq]
    have h3 : i.natAbs < 2 ^ 47 := by omega
    have h4 := PySem.Flt.log2_lt_of (show 0 < 47 by decide) h3
    omega
  · simp only [PyData.leavesShort, decide_eq_true_eq]
    have h6 : i.natAbs < 10 ^ 14 := by
      have e : (10 : Nat) ^ 14 = 100000000000000 := by decide
      rw [e]
      omega
    have h5 := int_text_length_le10 (k := 14) (by decide) h6
    show (Str.ofString (toString i)).length ≤ 15
    rw [PySem.ofString_length]
    exact h5
theorem Small.mono {d : PyData} {n m b c : Nat} (h : Small d n b) (hn : n ≤ m) (hb : b ≤ c) : Small d m c := ⟨h.sh, h.nd, Nat.le_trans h.dp hn, h.lv, Nat.le_trans h.bk hb, h.ly⟩
theorem SmallAll.mono {d : List PyData} {n m b c : Nat} (h : SmallAll d n b) (hn : n ≤ m) (hb : b ≤ c) : SmallAll d m c := ⟨h.sh, h.nd, Nat.le_trans h.dp hn, h.lv, Nat.le_trans h.bk hb, h.ly⟩
abbrev iD (ns : List Int) : List PyData := ns.map PyData.int
theorem SmallAll.ints {n : Nat} : ∀ (ns : List Int), (∀ x ∈ ns, -99999999999999 ≤ x ∧ x ≤ 99999999999999) → SmallAll (iD ns) n ns.length
  | [], _ => .nil
  | x :: r, h => by
    have h1 := h x List.mem_cons_self
    have h2 := SmallAll.cons (Small.int (n := n) (b := 0) h1.1 h1.2) (SmallAll.ints r fun y hy => h y (List.mem_cons_of_mem _ hy))
    exact h2.mono (Nat.le_refl _) (by show 0 + 1 + r.length ≤ r.length + 1; omega)
theorem dpInts {K : PySem.W.Frag} {H : Hp} : ∀ (ns : List Int), DpAll K H (ns.map V.int) (iD ns)
  | [] => .nil
  | x :: r => .cons (.int x) (dpInts r)
abbrev nI (l : List Nat) : List Int := l.map fun d => ((d : Nat) : Int)
theorem nV_eq (l : List Nat) : nV l = (nI l).map V.int := by rw [List.map_map]; rfl
section
variable {P : Program} {w : World} {K : PySem.W.Frag} {mg : Str → Option Value} {base : Heap}
/-! ### _law_same -/
theorem PenAt.upd {H : Hp} {p q : Addr} {o : HO} (h : PenAt H p) (n : p ≠ q) : PenAt (upd H q o) p := by
  obtain ⟨a, b, c, h1, h2⟩ := h
  exact ⟨a, b, c, by rw [upd_ne n]; exact h1, h2⟩
theorem PenAt.ne {H : Hp} {p q : Addr} (h : PenAt H p) (n : H q = none) : p ≠ q := by
  obtain ⟨a, b, c, h1, _⟩ := h
  exact ne_of_none h1 n
end
end Sg
set_option Elab.async false
set_option linter.all false
set_option maxRecDepth 100000
set_option maxHeartbeats 4000000
namespace Sg
open PySem PySem.Spec PyProof.Rows L2
/-! ## data of ints and tuples alone -/
section
variable {K : PySem.W.Frag} {H H' : Hp}
mutual
inductive Tp (K : PySem.W.Frag) (H : Hp) : V → PyData → Prop
  | int (i : Int) : Tp K H (.int i) (.int i)
  | tu {a : Addr} {xs : List V} {ds : List PyData} : SqT K H a xs → TpAll K H xs ds → Tp K H (.ref a) (.tuple ds)
inductive TpAll (K : PySem.W.Frag) (H : Hp) : List V → List PyData → Prop
  | no : TpAll K H [] []
  | on {v : V} {vs : List V} {d : PyData} {ds : List PyData} : Tp K H v d → TpAll K H vs ds → TpAll K H (v :: vs) (d :: ds)
end
mutual
theorem Tp.dp : ∀ {v : V} {d : PyData}, Tp K H v d → Dp K H v d
  | _, _, .int i => .int i
  | _, _, .tu h r => .tup h (TpAll.dp r)
theorem TpAll.dp : ∀ {v : List V} {d : List PyData}, TpAll K H v d → DpAll K H v d
  | _, _, .no => .nil
  | _, _, .on a r => .cons (Tp.dp a) (TpAll.dp r)
end
/-- all tuples and all instances are as they were -/
structure St (K : PySem.W.Frag) (H H' : Hp) : Prop where
  tu : ∀ a xs, SqT K H a xs → SqT K H' a xs
  ob : ∀ a C dx fs, H a = some (.ins C dx fs) → H' a = some (.ins C dx fs)
theorem St.trans {H2 : Hp} (a : St K H H') (b : St K H' H2) : St K H H2 := ⟨fun _ _ h => b.tu _ _ (a.tu _ _ h), fun _ _ _ _ h => b.ob _ _ _ _ (a.ob _ _ _ _ h)⟩
theorem St.of (e : Same H H') : St K H H' := ⟨fun _ _ h => Same.tup e h, fun _ _ _ _ h => e _ _ h⟩
theorem St.but {p : Addr} {ys : List V} (e : But p H H') (hp : H p = some (.lst ys)) : St K H H' :=
  ⟨fun _ _ h => But.tup e hp h, fun a C dx fs h => e _ _ (fun z => by rw [z, hp] at h; exact nomatch h) h⟩
theorem St.pen {p : Addr} (e : But p H H') (hp : PenAt H p) : St K H H' := by
  obtain ⟨a, b, c, h, _⟩ := hp
  exact .but e h
mutual
theorem Tp.stayT (e : ∀ a xs, SqT K H a xs → SqT K H' a xs) : ∀ {v : V} {d : PyData}, Tp K H v d → Tp K H' v d
  | _, _, .int i => .int i
  | _, _, .tu h r => .tu (e _ _ h) (TpAll.stayT e r)
theorem TpAll.stayT (e : ∀ a xs, SqT K H a xs → SqT K H' a xs) : ∀ {v : List V} {d : List PyData}, TpAll K H v d → TpAll K H' v d
  | _, _, .no => .no
  | _, _, .on a r => .on (Tp.stayT e a) (TpAll.stayT e r)
end
theorem tu_ins {p C dx : Addr} {fs : List (Str × V)} {o : HO} (hp : H p = some (.ins C dx fs)) : ∀ a xs, SqT K H a xs → SqT K (upd H p o) a xs := by
  intro a xs h
  have ne : ∀ u, H a = some u → (∀ C dx fs, u ≠ .ins C dx fs) → a ≠ p := fun u hu n z => by
    rw [z, hp] at hu
    exact n _ _ _ (Option.some.inj hu).symm
  exact h.imp (fun z => z.imp (fun z => by rw [upd_ne (ne _ z (fun _ _ _ q => nomatch q))]; exact z) fun ⟨u, z⟩ => ⟨u, by rw [upd_ne (ne _ z (fun _ _ _ q => nomatch q))]; exact z⟩) id
mutual
theorem Tp.stay (e : St K H H') : ∀ {v : V} {d : PyData}, Tp K H v d → Tp K H' v d
  | _, _, .int i => .int i
  | _, _, .tu h r => .tu (e.tu _ _ h) (TpAll.stay e r)
theorem TpAll.stay (e : St K H H') : ∀ {v : List V} {d : List PyData}, TpAll K H v d → TpAll K H' v d
  | _, _, .no => .no
  | _, _, .on a r => .on (Tp.stay e a) (TpAll.stay e r)
end
theorem TpAll.len : ∀ {vs : List V} {ds : List PyData}, TpAll K H vs ds → vs.length = ds.length
  | _, _, .no => rfl
  | _, _, .on _ r => congrArg (· + 1) (TpAll.len r)
theorem TpAll.at : ∀ {vs : List V} {ds : List PyData} {i : Nat} {v : V}, TpAll K H vs ds → vs[i]? = some v → ∃ d, ds[i]? = some d ∧ Tp K H v d
  | _, _, 0, _, .on a _, e => by cases e; exact ⟨_, rfl, a⟩
  | _, _, i + 1, _, .on _ r, e => TpAll.at (i := i) r e
theorem TpAll.add : ∀ {vs us : List V} {ds es : List PyData}, TpAll K H vs ds → TpAll K H us es → TpAll K H (vs ++ us) (ds ++ es)
  | _, _, _, _, .no, b => b
  | _, _, _, _, .on a r, b => .on a (TpAll.add r b)
theorem TpAll.cut : ∀ {vs : List V} {ds : List PyData} (n : Nat), TpAll K H vs ds → TpAll K H (vs.take n) (ds.take n)
  | _, _, 0, _ => .no
  | _, _, _ + 1, .no => .no
  | _, _, n + 1, .on a r => .on a (TpAll.cut n r)
theorem TpAll.off : ∀ {vs : List V} {ds : List PyData} (n : Nat), TpAll K H vs ds → TpAll K H (vs.drop n) (ds.drop n)
  | _, _, 0, r => r
  | _, _, _ + 1, .no => .no
  | _, _, n + 1, .on _ r => TpAll.off n r
theorem TpAll.ints : ∀ (ns : List Int), TpAll K H (ns.map V.int) (iD ns)
  | [] => .no
  | x :: r => .on (.int x) (TpAll.ints r)
theorem TpAll.isInts : ∀ {vs : List V} {ns : List Int}, TpAll K H vs (iD ns) → vs = ns.map V.int
  | _, [], .no => rfl
  | _, _ :: _, .on (.int _) r => by rw [TpAll.isInts r]; rfl
theorem Tp.ofInts {a : Addr} {ns : List Int} (h : SqT K H a (ns.map V.int)) : Tp K H (.ref a) (.tuple (iD ns)) := .tu h (TpAll.ints ns)
theorem Tp.toInts {v : V} {ns : List Int} (h : Tp K H v (.tuple (iD ns))) : ∃ a, v = .ref a ∧ SqT K H a (ns.map V.int) := by
  cases h with
  | tu h r => exact ⟨_, rfl, by rw [← TpAll.isInts r]; exact h⟩
theorem Tp.toTup {v : V} {ds : List PyData} (h : Tp K H v (.tuple ds)) : ∃ a xs, v = .ref a ∧ SqT K H a xs ∧ TpAll K H xs ds := by
  cases h with
  | tu h r => exact ⟨_, _, rfl, h, r⟩
end
/-! ## lines -/
/-- one to three works -/
structure GoodL (ws : List (List Int)) : Prop where
  least : 1 ≤ ws.length
  few : ws.length ≤ 3
  work : ∀ w ∈ ws, IsWork w
abbrev tD (ns : List Int) : PyData := .tuple (iD ns)
abbrev tDs (ws : List (List Int)) : List PyData := ws.map tD
abbrev cellD (a b : List Int) : PyData := tD (nI (barsN a b))
abbrev rowD (a : List Int) (ws : List (List Int)) : PyData := .tuple (ws.map (cellD a))
abbrev barD (ws : List (List Int)) : List PyData := ws.map fun a => rowD a ws
/-- the bars of all, row by row -/
def rowB (a : List Int) (ws : List (List Int)) : List Int := ws.flatMap fun b => nI (barsN a b)
def allB (ws vs : List (List Int)) : List Int := ws.flatMap fun a => rowB a vs
/-- the greatest, or 0 -/
structure Top (l : List Int) (m : Int) : Prop where
  pos : 0 ≤ m
  le : ∀ x ∈ l, x ≤ m
  eq : m = 0 ∨ m ∈ l
theorem Top.uniq {l k : List Int} {m n : Int} (h : Top l m) (g : Top k n) (e : ∀ x, x ∈ l ↔ x ∈ k) : m = n := by
  have a : m ≤ n := by
    rcases h.eq with z | z
    · rw [z]; exact g.pos
    · exact g.le _ ((e _).mp z)
  have b : n ≤ m := by
    rcases g.eq with z | z
    · rw [z]; exact h.pos
    · exact h.le _ ((e _).mpr z)
  omega
/-! ### the object -/
def lf (t b : Addr) (r : Int) : List (Str × V) := putF "_reach" (.int r) (putF "_bars" (.ref b) (putF "_works" (.ref t) []))
theorem k1 : ¬ (("_works" : Str) = "_bars") := by decide +kernel
theorem k2 : ¬ (("_works" : Str) = "_reach") := by decide +kernel
theorem k3 : ¬ (("_bars" : Str) = "_reach") := by decide +kernel
theorem lf_works (t b : Addr) (r : Int) : (lf t b r).lookup ("_works" : Str) = some (.ref t) := by
  unfold lf
  rw [lookup_putF, if_neg k2, lookup_putF, if_neg k1, lookup_putF, if_pos rfl]
theorem lf_bars (t b : Addr) (r : Int) : (lf t b r).lookup ("_bars" : Str) = some (.ref b) := by
  unfold lf
  rw [lookup_putF, if_neg k3, lookup_putF, if_pos rfl]
/-- a Line of these works stands at a -/
def LineAt (K : PySem.W.Frag) (C : Addr) (H : Hp) (a : Addr) (ws : List (List Int)) : Prop :=
  ∃ (dx t b : Addr) (r : Int), H a = some (.ins C dx (lf t b r)) ∧ Tp K H (.ref t) (.tuple (tDs ws)) ∧ Tp K H (.ref b) (.tuple (barD ws)) ∧ Top (allB ws ws) r ∧ GoodL ws
theorem LineAt.ins {K : PySem.W.Frag} {C a : Addr} {H : Hp} {ws : List (List Int)} (h : LineAt K C H a ws) : InsAt H C a := by
  obtain ⟨dx, t, b, r, h1, _⟩ := h
  exact ⟨_, _, h1⟩
theorem LineAt.good {K : PySem.W.Frag} {C a : Addr} {H : Hp} {ws : List (List Int)} (h : LineAt K C H a ws) : GoodL ws := by
  obtain ⟨dx, t, b, r, _, _, _, _, g⟩ := h
  exact g
theorem LineAt.stay {K : PySem.W.Frag} {C a : Addr} {H H' : Hp} {ws : List (List Int)} (e : St K H H') (h : LineAt K C H a ws) : LineAt K C H' a ws := by
  obtain ⟨dx, t, b, r, h1, h2, h3, h4, h5⟩ := h
  exact ⟨dx, t, b, r, e.ob _ _ _ _ h1, h2.stay e, h3.stay e, h4, h5⟩
theorem TpAll.works {K : PySem.W.Frag} {H : Hp} {vs : List V} {ws : List (List Int)} {i : Nat} {v : V} (h : TpAll K H vs (tDs ws)) (e : vs[i]? = some v) : ∃ w a, ws[i]? = some w ∧ v = .ref a ∧ SqT K H a (w.map V.int) := by
  obtain ⟨d, hd, t⟩ := h.at e
  rw [List.getElem?_map] at hd
  obtain ⟨w, hw, rfl⟩ := Option.map_eq_some_iff.mp hd
  obtain ⟨a, rfl, hs⟩ := t.toInts
  exact ⟨w, a, hw, rfl, hs⟩
end Sg
set_option Elab.async false
set_option linter.all false
set_option maxRecDepth 100000
set_option maxHeartbeats 4000000
namespace Sg
open PySem PySem.Spec PyProof.Rows L2
theorem call_tuple_ofK {X : Cx} {K : PySem.W.Frag} (hK : X.K = K) : CallR X (.type "tuple") (fun xs H Q => ∃ p ys, xs = [.ref p] ∧ ((SqL K H p ys ∧ ∀ l, H l = none → Q (.ref l) (upd H l (.tup ys))) ∨ (SqT K H p ys ∧ Q (.ref p) H))) := by
  subst hK; exact call_tuple_of
theorem pi_tupK {X : Cx} {K : PySem.W.Frag} {tg l : Expr} {tl : TE} (hK : X.K = K) (hl : PE X l tl) : PI X tg l (iTup K tl) := by
  subst hK; exact pi_tup hl
/-! ## a list of tuple data that grows -/
def Grow (K : PySem.W.Frag) (H1 : Hp) (D : Addr) (ds : List PyData) (i : Nat) (H' : Hp) : Prop := Same H1 H' ∧ ∃ acc, H' D = some (.lst acc) ∧ TpAll K H' acc (ds.take i)
theorem Grow.zero {K : PySem.W.Frag} {H1 : Hp} {D : Addr} {ds : List PyData} (hD : H1 D = none) : Grow K H1 D ds 0 (upd H1 D (.lst [])) :=
  ⟨same_new hD, [], upd_same, .no⟩
theorem Grow.next {K : PySem.W.Frag} {H1 H' H'' : Hp} {D : Addr} {ds : List PyData} {i : Nat} {d : PyData} {v : V} (hD : H1 D = none) (hz : ds.length ≤ 1000) (h : Grow K H1 D ds i H') (e : Same H' H'') (hd : ds[i]? = some d) (t : Tp K H'' v d) :
    ∃ acc, H'' D = some (.lst acc) ∧ acc.length < sizeLine ∧ Grow K H1 D ds (i + 1) (upd H'' D (.lst (acc ++ [v]))) := by
  obtain ⟨s1, acc, h1, h2⟩ := h
  have hD2 := e _ _ h1
  have st : St K H'' (upd H'' D (.lst (acc ++ [v]))) := .but (.upd) hD2
  refine ⟨acc, hD2, ?_, fun b o q => ?_, _, upd_same, ?_⟩
  · have z := h2.len
    have z2 : i < ds.length := (List.getElem?_eq_some_iff.mp hd).1
    rw [List.length_take] at z
    exact small1000 (by omega)
  · rw [upd_ne (ne_of_none q hD)]
    exact e _ _ (s1 _ _ q)
  · rw [List.take_add_one, hd]
    exact ((h2.stay (.of e)).stay st).add (.on (t.stay st) .no)
theorem Grow.done {K : PySem.W.Frag} {H1 H' : Hp} {D : Addr} {ds : List PyData} {n : Nat} (h : Grow K H1 D ds n H') (hn : n = ds.length) : Same H1 H' ∧ ∃ acc, H' D = some (.lst acc) ∧ TpAll K H' acc ds := by
  obtain ⟨s1, acc, h1, h2⟩ := h
  rw [hn, List.take_length] at h2
  exact ⟨s1, acc, h1, h2⟩
theorem Tp.new {K : PySem.W.Frag} {H : Hp} {l : Addr} {acc : List V} {ds : List PyData} (nl : H l = none) (t : TpAll K H acc ds) : Tp K (upd H l (.tup acc)) (.ref l) (.tuple ds) :=
  .tu (.of upd_same) (t.stay (.of (same_new nl)))
theorem GoodL.mem {ws : List (List Int)} (h : GoodL ws) {i : Nat} {w : List Int} (e : ws[i]? = Option.some w) : IsWork w := h.work w (List.mem_of_getElem? e)
theorem GoodL.lt {ws : List (List Int)} (h : GoodL ws) : (barD ws).length ≤ 1000 := by
  have := h.few
  rw [List.length_map]
  omega
/-- what the class has -/
structure LC (K : PySem.W.Frag) (mg : Str → Option Value) (C : Addr) : Prop where
  cl : Cls K C
  nW : NoAttr K C "_works"
  nB : NoAttr K C "_bars"
  nR : NoAttr K C "_reach"
  mgC : mg "Line" = some (.ref C)
end Sg
set_option Elab.async false
set_option linter.all false
set_option maxRecDepth 100000
set_option maxHeartbeats 4000000
namespace Sg
open PySem PySem.Spec PyProof.Rows L2
/-! ## a tuple times 0, 1 or more -/
theorem tuple_mulOne (l : Addr) (items : Array Value) (n : Nat) (dd : Option Addr) (sl : Array (Option Value)) (u : Tok) :
    Meets (Builtin.«tuple.__mul__» ⟨[.ref l, .int 1 u], []⟩) (fun _ R s => s.heap.get? l = some { cls := .type "tuple", dict := dd, data := .seq items n, slots := sl } ∧ R (.ok (.ret (Value.ref l))) s) :=
  .of_wp fun prog w A R s h => by
    obtain ⟨hp, g, d, tk, os⟩ := s
    obtain ⟨hl, h⟩ := h
    have f1 := AutoSeq1.idx_int
    have ht : Shared.TypeIs ⟨hp, g, d, tk, os⟩ (.ref l) "tuple" := ⟨_, hl, rfl⟩
    wp_walk using wpAny_loadPart' hl, wpAny_typeOf ht
    repeat (first
      | (refine wpAny_ite_true (by rw [Bool.or_eq_true]; exact .inr rfl) ?_; wp_walk using wpAny_loadPart' hl, wpAny_typeOf ht)
      | (refine wpAny_ite_true rfl ?_; wp_walk using wpAny_loadPart' hl, wpAny_typeOf ht)
      | (refine wpAny_ite_false (by decide) ?_; wp_walk using wpAny_loadPart' hl, wpAny_typeOf ht))
    exact ⟨_, rfl, h⟩
theorem tuple_mulNone (l : Addr) (items : Array Value) (n : Nat) (dd : Option Addr) (sl : Array (Option Value)) (u : Tok) (c1 : items.isEmpty = false) :
    Meets (Builtin.«tuple.__mul__» ⟨[.ref l, .int 0 u], []⟩) (fun _ R s => s.heap.get? l = some { cls := .type "tuple", dict := dd, data := .seq items n, slots := sl } ∧
      R (.ok (.ret (Value.ref s.heap.objs.size))) { s with heap := s.heap.push { cls := Value.type "tuple", data := Data.seq #[] }, toks := s.toks }) :=
  .of_wp fun prog w A R s h => by
    obtain ⟨hp, g, d, tk, os⟩ := s
    obtain ⟨hl, h⟩ := h
    have f1 := AutoSeq1.idx_int
    have c2 : (items.isEmpty || (0 : Int) == 1) = false := by rw [c1]; rfl
    wp_walk using wpAny_loadPart' hl
    repeat (first
      | (refine wpAny_ite_false (by rw [c2]; exact Bool.false_ne_true) ?_; wp_walk using wpAny_loadPart' hl)
      | (refine wpAny_ite_true rfl ?_; wp_walk using wpAny_loadPart' hl)
      | (refine wpAny_ite_false (by decide) ?_; wp_walk using wpAny_loadPart' hl))
    exact ⟨_, rfl, h⟩
def rRepN (K : PySem.W.Frag) : R2 := fun x y H Q => ∃ (l : Addr) (k : Nat) (xs : List V), x = .ref l ∧ y = .int k ∧ SqT K H l xs ∧ xs ≠ [] ∧ k ≤ 1000 ∧ xs.length ≤ 1000 ∧
  (k = 1 → Q (.ref l) H) ∧ (k ≠ 1 → ∀ p, H p = none → Q (.ref p) (upd H p (.tup (List.replicate k xs).flatten)))
theorem op_repN {X : Cx} : OpR X (binaryOp .Mult) (rRepN X.K) := by
  intro pins s σ H x y v u Q I rx ry h
  obtain ⟨l, k, xs, rfl, rfl, hT, hne, h2, hz, q1, q2⟩ := h
  by_cases h1 : 2 ≤ k
  · refine op_repT pins s σ H _ _ v u Q I rx ry ⟨l, k, xs, rfl, rfl, hT, hne, by omega, by omega, hz, fun p np => ?_⟩
    rw [Int.toNat_natCast]
    exact q2 (by omega) p np
  cases rx
  obtain ⟨t, rfl⟩ := ry
  obtain ⟨its, r, ⟨⟨cls, dd, data, sl⟩, ho, hc, n, hd⟩, hs⟩ := I.tuple hT
  simp only at hc hd
  subst hc hd
  have hle : its.length = xs.length := r.length.symm
  have hn : its ≠ [] := fun e => hne (by
    rw [e] at hle
    exact List.eq_nil_of_length_eq_zero hle.symm)
  have hi : its.toArray.isEmpty = false := by
    cases its with
    | nil => exact absurd rfl hn
    | cons a b => rfl
  rcases (show k = 0 ∨ k = 1 by omega) with rfl | rfl
  · refine wpAny_binaryOp_repeat_ref (T := "tuple") (U := "int") (by decide) ⟨_, ho, rfl⟩ (fun s' => typeIs_int s' _ t) noFill_tuple_mul F.fills_int_mul F.slot_int_rmul repeat_tuple PySem.F.slot_int_index.lookup
      (call_meets F.slot_int_rmul (typeIs_int s _ t) F.entry_int_rmul (F.args_int_rmul_2 _ _) (int_rmul_tuple _ t l its.toArray n dd sl)
        ⟨ho, rfl, ⟨_, ho, rfl⟩, call_meets F.slot_tuple_mul ⟨_, ho, rfl⟩ F.entry_tuple_mul (F.args_tuple_mul_2 _ _) (tuple_mulNone l its.toArray n dd sl t hi) ⟨ho, ?_⟩⟩)
    refine ⟨.ref s.heap.objs.size, _, I.laid (t' := s.toks) (o := .tup (List.replicate 0 xs).flatten) (fun b ob q => Heap.get?_push_of_some _ q) (Nat.le_refl _) ?_, rfl, q2 (by decide) _ (I.hok.fresh (Nat.le_refl _))⟩
    exact ⟨Nat.zero_le _, [], .nil, IsTup.new _ _⟩
  · refine wpAny_binaryOp_repeat_ref (T := "tuple") (U := "int") (by decide) ⟨_, ho, rfl⟩ (fun s' => typeIs_int s' _ t) noFill_tuple_mul F.fills_int_mul F.slot_int_rmul repeat_tuple PySem.F.slot_int_index.lookup
      (call_meets F.slot_int_rmul (typeIs_int s _ t) F.entry_int_rmul (F.args_int_rmul_2 _ _) (int_rmul_tuple _ t l its.toArray n dd sl)
        ⟨ho, rfl, ⟨_, ho, rfl⟩, call_meets F.slot_tuple_mul ⟨_, ho, rfl⟩ F.entry_tuple_mul (F.args_tuple_mul_2 _ _) (tuple_mulOne l its.toArray n dd sl t) ⟨ho, ?_⟩⟩)
    exact ⟨.ref l, H, I, rfl, q1 rfl⟩
/-- .. asked once for all -/
def rRepS (K : PySem.W.Frag) : R2 := fun x y H Q => ∃ (l : Addr) (k : Nat) (xs : List V), x = .ref l ∧ y = .int k ∧ SqT K H l xs ∧ xs ≠ [] ∧ k ≤ 1000 ∧ xs.length ≤ 1000 ∧
  ∀ H' u, Same H H' → SqT K H' u (List.replicate k xs).flatten → Q (.ref u) H'
theorem op_repS {X : Cx} : OpR X (binaryOp .Mult) (rRepS X.K) := by
  intro pins s σ H x y v u Q I rx ry h
  obtain ⟨l, k, xs, rfl, rfl, hT, hne, h2, hz, q⟩ := h
  refine op_repN pins s σ H _ _ v u Q I rx ry ⟨l, k, xs, rfl, rfl, hT, hne, h2, hz, fun z => q H l (fun _ _ h => h) ?_, fun _ p np => q _ p (same_new np) (.of upd_same)⟩
  subst z
  rw [show (List.replicate 1 xs).flatten = xs from by simp]
  exact hT
/-! ## a part of a tuple, the whole of it too -/
end Sg
set_option Elab.async false
set_option linter.all false
set_option maxRecDepth 100000
set_option maxHeartbeats 4000000
namespace Sg
open PySem PySem.Spec PyProof.Rows L2
theorem tup_upd {K : PySem.W.Frag} {H : Hp} {p a : Addr} {xs : List V} {u o : HO} (hp : H p = some u) (hu : ∀ ys, HO.tup ys ≠ u) (hv : ∀ ob ys, HO.frz ob (.tup ys) ≠ u) (h : SqT K H a xs) : SqT K (upd H p o) a xs := by
  rcases h with (h | ⟨ob, h⟩) | h
  · exact .inl (.inl (by rw [upd_ne (ne_of h hp (hu _))]; exact h))
  · exact .inl (.inr ⟨ob, by rw [upd_ne (ne_of h hp (hv _ _))]; exact h⟩)
  · exact .inr h
theorem PenAt.new {H : Hp} {p l : Addr} {o : HO} (h : PenAt H p) (n : H l = none) : PenAt (L2.upd H l o) p := h.upd (h.ne n)
theorem cr_sumT {X : Cx} (hc : X.calm = true) : CallR X (.builtin "sum") (fun vs H Q => ∃ (a : Addr) (ns : List Int), vs = [.ref a] ∧ SqT X.K H a (ns.map V.int) ∧ Q (.int ns.sum) H) := by
  intro pins s σ H vs us Q I r h
  obtain ⟨a, ns, rfl, hs, q⟩ := h
  obtain ⟨its, rv, ht, hz⟩ := I.tuple hs
  rw [Vals.ref1 r]
  obtain ⟨xs, e⟩ := rv.ints.allInts.items
  have hn : numsOf (intItems xs).toList = ns := by rw [← e]; exact rv.ints.numsOf
  rw [nums_intItems] at hn
  rw [e] at ht
  refine PySem.W.ktm_sumG (I.ok.hd hc) ht fun h' tk t' hk => ?_
  refine ⟨.int ns.sum, H, I.kept hk, ⟨t', ?_⟩, q⟩
  rw [preSum_eq, List.take_of_length_le (by simp), hn]
end Sg
set_option Elab.async false
set_option linter.all false
set_option maxRecDepth 100000
set_option maxHeartbeats 4000000
set_option Elab.async false
set_option linter.all false
set_option maxRecDepth 100000
set_option maxHeartbeats 4000000
namespace Sg
open PySem PySem.Spec PyProof.Rows L2 StX
/-! ## data compared -/
theorem eqv_ints : ∀ (xs ys : List Int), PyData.eqvAll (iD xs) (iD ys) = decide (xs = ys)
  | [], [] => by simp [PyData.eqvAll]
  | [], _ :: _ => by simp [PyData.eqvAll]
  | _ :: _, [] => by simp [PyData.eqvAll]
  | x :: xs, y :: ys => by
    show PyData.eqvAll (.int x :: iD xs) (.int y :: iD ys) = _
    rw [PyData.eqvAll, eqv_ints xs ys, PyData.eqv]
    by_cases h : x = y
    · subst h; simp
    · simp [h]
theorem eqv_tD (xs ys : List Int) : PyData.eqv (tD xs) (tD ys) = decide (xs = ys) := by
  show PyData.eqv (.tuple (iD xs)) (.tuple (iD ys)) = _
  rw [PyData.eqv, eqv_ints]
theorem eqv_tDs : ∀ (xs ys : List (List Int)), PyData.eqvAll (tDs xs) (tDs ys) = decide (xs = ys)
  | [], [] => by simp [PyData.eqvAll]
  | [], _ :: _ => by simp [PyData.eqvAll]
  | _ :: _, [] => by simp [PyData.eqvAll]
  | x :: xs, y :: ys => by
    show PyData.eqvAll (tD x :: tDs xs) (tD y :: tDs ys) = _
    rw [PyData.eqvAll, eqv_tDs xs ys, eqv_tD]
    by_cases h : x = y
    · subst h; simp
    · simp [h]
theorem lay_iD : ∀ (xs : List Int), PyData.canLayAll0 (iD xs) = true
  | [] => by simp [PyData.canLayAll0]
  | x :: r => by
    show PyData.canLayAll0 (.int x :: iD r) = true
    rw [PyData.canLayAll0, lay_iD r, PyData.canLay0]; rfl
theorem dep_iD : ∀ (xs : List Int), PyData.depthAll (iD xs) = 0
  | [] => by simp [PyData.depthAll]
  | x :: r => by
    show PyData.depthAll (.int x :: iD r) = 0
    rw [PyData.depthAll, dep_iD r, PyData.depth]; rfl
theorem lay_tDs : ∀ (xs : List (List Int)), PyData.canLayAll0 (tDs xs) = true
  | [] => by simp [PyData.canLayAll0]
  | x :: r => by
    show PyData.canLayAll0 (.tuple (iD x) :: tDs r) = true
    rw [PyData.canLayAll0, lay_tDs r, PyData.canLay0, lay_iD]; rfl
theorem dep_tDs : ∀ (xs : List (List Int)), PyData.depthAll (tDs xs) ≤ 1
  | [] => by simp [PyData.depthAll]
  | x :: r => by
    show PyData.depthAll (.tuple (iD x) :: tDs r) ≤ 1
    rw [PyData.depthAll, PyData.depth, dep_iD]
    exact Nat.max_le.mpr ⟨Nat.le_refl _, dep_tDs r⟩
theorem shaped_tDs (xs : List (List Int)) : SeqAt.shaped (.tuple (tDs xs)) = true := by
  unfold SeqAt.shaped
  have a : (PyData.tuple (tDs xs)).canLay0 = true := by rw [PyData.canLay0, lay_tDs]
  have b : (PyData.tuple (tDs xs)).depth ≤ 64 := by rw [PyData.depth]; have := dep_tDs xs; omega
  rw [a, decide_eq_true b]; rfl
end Sg
set_option Elab.async false
set_option linter.all false
set_option maxRecDepth 100000
set_option maxHeartbeats 4000000
set_option Elab.async false
set_option linter.all false
set_option maxRecDepth 100000
set_option maxHeartbeats 4000000
namespace Sg
open PySem PySem.Spec PyProof.Rows L2
/-! ## keys that are tuples of tuples -/
mutual
/-- the value v is the key k: an int, or a tuple of keys -/
inductive KeyAt (H : Hp) : NestedKey → V → Prop
  | int (i : Int) : KeyAt H (.num i) (.int i)
  | tup {a : Addr} {us : List V} {ks : List NestedKey} : H a = some (.tup us) → KeyAll H ks us → KeyAt H (.tup ks) (.ref a)
inductive KeyAll (H : Hp) : List NestedKey → List V → Prop
  | no : KeyAll H [] []
  | on {k : NestedKey} {v : V} {ks : List NestedKey} {us : List V} : KeyAt H k v → KeyAll H ks us → KeyAll H (k :: ks) (v :: us)
end
mutual
theorem KeyAt.keep {H H' : Hp} (e : ∀ a us, H a = some (.tup us) → H' a = some (.tup us)) : ∀ {k : NestedKey} {v : V}, KeyAt H k v → KeyAt H' k v
  | _, _, .int i => .int i
  | _, _, .tup h r => .tup (e _ _ h) (KeyAll.keep e r)
theorem KeyAll.keep {H H' : Hp} (e : ∀ a us, H a = some (.tup us) → H' a = some (.tup us)) : ∀ {ks : List NestedKey} {us : List V}, KeyAll H ks us → KeyAll H' ks us
  | _, _, .no => .no
  | _, _, .on a r => .on (KeyAt.keep e a) (KeyAll.keep e r)
end
mutual
theorem KeyAt.is {P : Program} {w : World} {H : Hp} {h : Heap} (ok : HOk P w H h) : ∀ {k : NestedKey} {v : V} {u : Value}, KeyAt H k v → RelV v u → NestedIs h k u
  | _, _, u, .int i, r => by
    obtain ⟨t, rfl⟩ := r
    exact .int i t
  | _, _, u, .tup (a := a) h' q, r => by
    obtain rfl : u = Value.ref a := r
    obtain ⟨_, its, rv, o, h1, h2, n, h3⟩ := (show ObjOk P w H h a (.tup _) from ok a _ h')
    exact .tup h1 h2 h3 (by rw [List.toList_toArray]; exact KeyAll.is ok q rv)
theorem KeyAll.is {P : Program} {w : World} {H : Hp} {h : Heap} (ok : HOk P w H h) : ∀ {ks : List NestedKey} {us : List V} {its : List Value}, KeyAll H ks us → Vals us its → NestedAll h ks its
  | _, _, _, .no, .nil => .nil
  | _, _, _, .on a r, .cons b q => .cons (KeyAt.is ok a b) (KeyAll.is ok r q)
end
/-! ## a dict with such keys: its rows (key, where the key stands, value) -/
abbrev Row := NestedKey × Addr × V
def DN (P : Program) (w : World) (a : Addr) (rs : List Row) : HO := .ext fun h => rs.length ≤ sizeLine ∧ (a == sysModules) = false ∧
  ∃ ys : List (NestedKey × Addr × Value), Paired (fun r y => r.1 = y.1 ∧ r.2.1 = y.2.1 ∧ RelV r.2.2 y.2.2) rs ys ∧
    ∃ o es ep, h.get? a = some o ∧ o.ExactDict ∧ o.data = .dict es ep ∧ es.toList = ys.map (entryOfKey (nestedKind P w)) ∧ (ys.map (·.1)).Nodup
def KeysIn (H : Hp) (rs : List Row) : Prop := ∀ r ∈ rs, KeyAt H r.1 (.ref r.2.1) ∧ r.1.depth ≤ 8
theorem KeysIn.keep {H H' : Hp} {rs : List Row} (h : KeysIn H rs) (e : ∀ a us, H a = some (.tup us) → H' a = some (.tup us)) : KeysIn H' rs := fun r hr => ⟨(h r hr).1.keep e, (h r hr).2⟩
abbrev RowRel : Row → NestedKey × Addr × Value → Prop := fun r y => r.1 = y.1 ∧ r.2.1 = y.2.1 ∧ RelV r.2.2 y.2.2
section
variable {P : Program} {w : World} {H : Hp} {h : Heap} {a : Addr} {rs : List Row}
theorem dn_of (ok : HOk P w H h) (e : H a = some (DN P w a rs)) (ks : KeysIn H rs) : rs.length ≤ sizeLine ∧ (a == sysModules) = false ∧ ∃ ys, Paired RowRel rs ys ∧ h.DictOfH (nestedKind P w) a ys := by
  obtain ⟨z, y, ys, r, o, es, ep, h1, h2, h3, h4, h5⟩ := (ok a _ e).1
  refine ⟨z, y, ys, r, o, es, ep, h1, h2, h3, h4, ?_, h5⟩
  have all : ∀ {l : List Row} {m : List (NestedKey × Addr × Value)}, Paired RowRel l m → KeysIn H l → ∀ x ∈ m, (nestedKind P w).is h x.1 x.2.1 := by
    intro l m q
    induction q with
    | nil => intro _ x hx; exact nomatch hx
    | @cons p q ps qs hq t ih =>
      intro hk x hx
      rcases List.mem_cons.mp hx with e | hx
      · subst e
        obtain ⟨k1, k2⟩ := hk p List.mem_cons_self
        have := k1.is ok (u := .ref p.2.1) rfl
        rw [hq.1, hq.2.1] at this
        exact ⟨this, by rw [← hq.1]; exact k2⟩
      · exact ih (fun r hr => hk r (List.mem_cons_of_mem _ hr)) x hx
  exact all r ks
end
section
variable {X : Cx} {pins : List (Addr × Obj)} {σ : L2.St} {H : Hp} {s : Shared} {a b : Addr} {k : NestedKey} {rs : List Row} {v : V} {r : Value} {A : Around} {E : Value → Shared → Prop}
/-- the key at b is looked for in the dict at a -/
structure NAt (P : Program) (w : World) (H : Hp) (a b : Addr) (k : NestedKey) (rs : List Row) : Prop where
  at_ : H a = some (DN P w a rs)
  keys : KeysIn H rs
  key : KeyAt H k (.ref b)
  deep : k.depth ≤ 8
theorem NAt.is {P : Program} {w : World} {h : Heap} (n : NAt P w H a b k rs) (ok : HOk P w H h) : (nestedKind P w).is h k b := ⟨n.key.is ok rfl, n.deep⟩
end
/-! ### as rules -/
section
variable {X : Cx} {o i e value : Expr} {pos pos' : Pos} {td ty tv : TE}
theorem NAt.typeIs {pins : List (Addr × Obj)} {σ : L2.St} {H : Hp} {s : Shared} {a b : Addr} {k : NestedKey} {rs : List Row} (n : NAt X.prog X.w H a b k rs) (I : Inv X pins σ H s) : s.TypeIs (.ref a) "dict" := by
  obtain ⟨_, _, ys, _, dd⟩ := dn_of I.hok n.at_ n.keys
  exact dd.typeIs
end
end Sg
set_option Elab.async false
set_option linter.all false
set_option maxRecDepth 100000
set_option maxHeartbeats 4000000
namespace Sg
open PySem PySem.Spec PyProof.Rows L2
/-! ## the law's own call, where defs of it make lambdas: their tables of code objects are known to be empty -/
/-- the tables' places -/
abbrev Pl (cs : List (Addr × Addr)) : List Addr := cs.map (·.2)
section
variable {P : Program} {w : World} {K : PySem.W.Frag} {mg mb : Str → Option Value} {k : Nat} {fa a : Addr} {cs : List (Addr × Addr)}
variable {fd : FuncData} {x : Str} {sp : Sp} {s₁ : Shared} {vs : List Value} {ns : List Int}
/-- what stands in such a heap: the script, perhaps, and the tables -/
structure TabH (cs : List (Addr × Addr)) (a : Addr) (H : Hp) : Prop where
  tab : ∀ p ∈ cs, H p.2 = some (.tbl #[])
  only : ∀ b u, H b = some u → (b = a ∧ ∃ o xs, u = .frz o (.lst xs)) ∨ (b ∈ Pl cs ∧ u = .tbl #[])
theorem call_tabs {H : Hp} (KX : K.In s₁.heap) (hns : s₁.heap.Ns mainGlobals mg) (hb : s₁.heap.Ns builtinsNs mb)
    (hbb : ∀ x : Str, x ≠ "__name__" → mb x = bootBuiltins x) (hlim : s₁.heap.NoLimit) (hg : s₁.gens = #[])
    (hbm : ∃ (bm : Addr) (ob : Obj), mg "__builtins__" = some (.ref bm) ∧ bm ≠ builtinsNs ∧ s₁.heap.get? bm = some ob ∧ ob.cls = .type "module" ∧ ob.dict = some builtinsNs ∧ ob.data = .plain)
    (hT : ∀ p ∈ cs, PySem.W.CodeHd s₁.heap p.1 p.2 ∧ s₁.heap.get? p.2 = some { cls := .none, data := .fields #[] } ∧ K.lookup p.2 = none)
    (ha : s₁.heap.get? a = some { cls := .type "list", data := .seq vs.toArray }) (hr : Room k callerA)
    (F : ∀ base : Heap, K.In base → base.Ns mainGlobals mg → (∀ p ∈ cs, LamX.TabB base mg p.1 p.2) → FnG P w K mg base k fa fd [x] sp)
    (hbind : ∀ (s : Shared) (u : Value), BindsTo s fd ⟨[u], []⟩ [(x, u)])
    (hsp : sp [.ref a] H (fun v _ => v = .bl true) E0) (hok : HOk P w H s₁.heap) (hH : TabH cs a H) (hK : H a ≠ none → K.lookup a = none) :
    codeAny (model P w) callerA (.call (.ref fa) ⟨[.ref a], []⟩) (Ended s₁) s₁ := by
  have inT : ∀ {b : Addr}, b ∈ Pl cs → s₁.heap.get? b = some { cls := .none, data := .fields #[] } ∧ K.lookup b = none := fun {b} h => by
    obtain ⟨p, hp, e⟩ := List.mem_map.mp h
    rw [← e]
    exact (hT p hp).2
  -- what is neither a list nor an empty table is not tracked
  have free : ∀ {b : Addr} {o : Obj}, s₁.heap.get? b = some o → (∀ vs n, o.data ≠ .seq vs n) → o.data ≠ .fields #[] → H b = none := by
    intro b o e h1 h2
    rcases q : H b with _ | u
    · rfl
    · rcases hH.only b u q with ⟨z, _⟩ | ⟨z, _⟩
      · rw [z, ha] at e
        rw [← Option.some.inj e] at h1
        exact absurd rfl (h1 _ _)
      · rw [(inT z).1] at e
        rw [← Option.some.inj e] at h2
        exact absurd rfl h2
  have dic : ∀ {b : Addr} {o : Obj} {es : Array DictEntry} {ep : Nat}, s₁.heap.get? b = some o → o.data = .dict es ep → H b = none := fun e d =>
    free e (fun _ _ z => by rw [d] at z; exact nomatch z) (fun z => by rw [d] at z; exact nomatch z)
  have nsK : ∀ {b : Addr} {m : Str → Option Value}, s₁.heap.Ns b m → (hidT s₁.heap H).Ns b m := by
    rintro b m ⟨o, es, ep, e, d, r⟩
    exact ⟨o, es, ep, hidT_get e (dic e d), d, r⟩
  have hKb : K.In (hidT s₁.heap H) := by
    intro b o e
    refine hidT_get (KX b o e) ?_
    rcases q : H b with _ | u
    · rfl
    · rcases hH.only b u q with ⟨z, _⟩ | ⟨z, _⟩
      · rw [z] at e q
        rw [hK (by rw [q]; exact fun y => nomatch y)] at e
        exact nomatch e
      · rw [(inT z).2] at e
        exact nomatch e
  have hM : Mod K mg (hidT s₁.heap H) := by
    refine ⟨hKb, nsK hns, ⟨mb, nsK hb, hbb⟩, ?_⟩
    obtain ⟨mc, h1, h2⟩ := hlim
    exact ⟨mc, nsK h1, h2⟩
  have TB : ∀ p ∈ cs, LamX.TabB (hidT s₁.heap H) mg p.1 p.2 := fun p hp => by
    obtain ⟨hC, hP, _⟩ := hT p hp
    have nG : mainGlobals ≠ p.2 := fun z => by
      obtain ⟨o, es, ep, e, hd, _⟩ := hns
      rw [z, hP] at e
      rw [← Option.some.inj e] at hd
      exact nomatch hd
    refine ⟨?_, ?_, nG⟩
    · obtain ⟨o, us, file, tf, flags, tg, inF, text, tt, e1, r1, r2, r3, rest⟩ := hC
      refine ⟨o, us, file, tf, flags, tg, inF, text, tt, hidT_get e1 (free e1 (fun _ _ z => ?_) fun z => ?_), r1, r2, r3, rest⟩
      · rw [r2] at z; exact nomatch z
      · rw [r2] at z
        rw [Data.fields.inj z] at r3
        exact absurd r3 (by simp)
    · obtain ⟨bm, ob, b1, b2, b3, b4, b5, b6⟩ := hbm
      refine ⟨bm, ob, b1, b2, fun z => ?_, fun z => ?_, hidT_get b3 (free b3 (fun _ _ z => ?_) fun z => ?_), b4, b5, b6⟩
      · obtain ⟨o, es, ep, e, hd, _⟩ := hns
        rw [← z, b3] at e
        rw [← Option.some.inj e, b6] at hd
        exact nomatch hd
      · rw [z, hP] at b3
        rw [← Option.some.inj b3] at b6
        exact nomatch b6
      · rw [b6] at z; exact nomatch z
      · rw [b6] at z; exact nomatch z
  have e0 : Env0 P w K mg (hidT s₁.heap H) callerA [] s₁ H :=
    ⟨rfl, hM, fun b o e => of_hidT e, Nat.le_of_eq (hidT_size _ _), trivial, fun b hb => (nomatch (show b ∈ ([] : List Addr) from hb)), hok, .of_eq hg⟩
  have run := (F _ hKb (nsK hns) TB).go callerA [] s₁ H ⟨[.ref a], []⟩ [.ref a] [.ref a] _ rfl hr e0 (hbind s₁ (.ref a)) (.cons rfl .nil) hsp
  refine codeAny_mono run ?_
  intro r s' h
  match r, h with
  | .error _, h => exact h.elim
  | .ok .next, h => exact h.elim
  | .ok .brk, h => exact h.elim
  | .ok .cont, h => exact h.elim
  | .ok (.ret u), h =>
    obtain ⟨v, H', os, bare, un, hok', ru, q⟩ := h
    obtain rfl : v = .bl true := q
    obtain rfl : u = Value.bool true := ru
    have kept : ∀ b o, b ∉ Pl cs → s₁.heap.get? b = some o → s'.heap.get? b = some o := by
      intro b o nb e
      rcases q : H b with _ | u
      · exact un.keep b o e q (fun z => nomatch (show b ∈ ([] : List Addr) from z)) (fun z => nomatch z)
      · rcases hH.only b u q with ⟨_, ob, xs, z⟩ | ⟨z, _⟩
        · rw [z] at q
          obtain ⟨e1, _⟩ := hok b _ q
          obtain ⟨e2, _⟩ := hok' b _ (un.frzs b ob _ q)
          rw [e] at e1
          rw [e2, Option.some.inj e1]
        · exact absurd z nb
    have more : ∀ p ∈ cs, ∃ ps : Array Value, s'.heap.get? p.2 = some { cls := .none, data := .fields ps } := fun p hp => by
      obtain ⟨ps, z⟩ := un.tbls p.2 #[] (hH.tab p hp)
      exact ⟨_, hok' p.2 _ z⟩
    refine ⟨rfl, ⟨fun b o e => ?_, fun b o e => ?_⟩, os, bare⟩
    · by_cases hb : b ∈ Pl cs
      · obtain ⟨p, hp, e'⟩ := List.mem_map.mp hb
        obtain ⟨ps, hm⟩ := more p hp
        obtain ⟨hC, hP, _⟩ := hT p hp
        rw [← e'] at e ⊢
        rw [hP] at e
        obtain rfl := Option.some.inj e
        exact .inr (.inl ⟨(hC.tab hP).isCodeTable, rfl, #[], ps, rfl, by rw [Array.empty_append]; exact hm⟩)
      · exact .inl (kept b o hb e)
    · by_cases hb : b ∈ Pl cs
      · obtain ⟨p, hp, e'⟩ := List.mem_map.mp hb
        rw [← e']
        obtain ⟨ps, hm⟩ := more p hp
        exact ⟨_, hm⟩
      · exact ⟨o, kept b o hb e⟩
/-- a def x of the text that makes lambdas: its code object, its table -/
structure LamDef (p : Program) (K : PySem.W.Frag) (x : Str) (c P : Addr) : Prop where
  there : ∃ d, (recsOf p).find? (fun e => e.name == x) = some d
  tab : PySem.W.tabIn K x = some (c, P)
  out : K.lookup P = none
theorem call_lawT (KX : K.In s₁.heap) (hns : s₁.heap.Ns mainGlobals mg) (hb : s₁.heap.Ns builtinsNs mb)
    (hbb : ∀ x : Str, x ≠ "__name__" → mb x = bootBuiltins x) (hlim : s₁.heap.NoLimit) (hg : s₁.gens = #[])
    (hbm : ∃ (bm : Addr) (ob : Obj), mg "__builtins__" = some (.ref bm) ∧ bm ≠ builtinsNs ∧ s₁.heap.get? bm = some ob ∧ ob.cls = .type "module" ∧ ob.dict = some builtinsNs ∧ ob.data = .plain)
    (hT : ∀ p ∈ cs, PySem.W.CodeHd s₁.heap p.1 p.2 ∧ s₁.heap.get? p.2 = some { cls := .none, data := .fields #[] } ∧ K.lookup p.2 = none)
    (ha : s₁.heap.get? a = some { cls := .type "list", data := .seq vs.toArray }) (hi : IntsAre vs ns)
    (hl : ns.length ≤ sizeLine) (hr : Room k callerA)
    (F : ∀ base : Heap, K.In base → base.Ns mainGlobals mg → (∀ p ∈ cs, LamX.TabB base mg p.1 p.2) → FnG P w K mg base k fa fd [x] sp)
    (hbind : ∀ (s : Shared) (u : Value), BindsTo s fd ⟨[u], []⟩ [(x, u)])
    (hsp : ∀ H : Hp, (∀ p ∈ cs, H p.2 = some (.tbl #[])) → SqL K H a (ns.map V.int) → sp [.ref a] H (fun v _ => v = .bl true) E0) :
    codeAny (model P w) callerA (.call (.ref fa) ⟨[.ref a], []⟩) (Ended s₁) s₁ := by
  have rv := vals_ints hi
  have lenV := hi.length
  have naT : a ∉ Pl cs := fun z => by
    obtain ⟨p, hp, e⟩ := List.mem_map.mp z
    have h := (hT p hp).2.1
    rw [e, ha] at h
    have h' := congrArg Obj.data (Option.some.inj h)
    exact nomatch (show Data.seq vs.toArray _ = Data.fields #[] from h')
  have inT : ∀ {b : Addr}, b ∈ Pl cs → s₁.heap.get? b = some { cls := .none, data := .fields #[] } := fun {b} h => by
    obtain ⟨p, hp, e⟩ := List.mem_map.mp h
    rw [← e]
    exact (hT p hp).2.1
  have mem : ∀ p ∈ cs, p.2 ∈ Pl cs := fun p hp => List.mem_map.mpr ⟨p, hp, rfl⟩
  rcases hk : K.lookup a with _ | o
  · -- the script is tracked
    let H : Hp := fun b => if b = a then some (.frz { cls := .type "list", data := .seq vs.toArray } (.lst (ns.map V.int))) else if b ∈ Pl cs then some (.tbl #[]) else none
    have at_a : H a = some (.frz { cls := .type "list", data := .seq vs.toArray } (.lst (ns.map V.int))) := if_pos rfl
    have at_t : ∀ b, b ∈ Pl cs → H b = some (.tbl #[]) := fun b hb => by
      have nb : b ≠ a := fun z => naT (z ▸ hb)
      show (if b = a then _ else if b ∈ Pl cs then some (HO.tbl #[]) else none) = _
      rw [if_neg nb, if_pos hb]
    have off : ∀ b, b ≠ a → b ∉ Pl cs → H b = none := fun b h1 h2 => by
      show (if b = a then _ else if b ∈ Pl cs then some (HO.tbl #[]) else none) = _
      rw [if_neg h1, if_neg h2]
    have hH : TabH cs a H := ⟨fun p hp => at_t _ (mem p hp), fun b u z => by
      by_cases h1 : b = a
      · subst h1
        rw [at_a] at z
        exact .inl ⟨rfl, _, _, (Option.some.inj z).symm⟩
      · by_cases h2 : b ∈ Pl cs
        · rw [at_t b h2] at z
          exact .inr ⟨h2, (Option.some.inj z).symm⟩
        · rw [off b h1 h2] at z
          exact nomatch z⟩
    refine call_tabs (H := H) KX hns hb hbb hlim hg hbm hT ha hr F hbind (hsp H hH.tab (.inl (.inr ⟨_, at_a⟩))) ?_ hH (fun _ => hk)
    intro b u z
    by_cases h1 : b = a
    · subst h1
      rw [at_a] at z
      obtain rfl := Option.some.inj z
      exact ⟨ha, by rw [List.length_map]; exact hl, vs, _, rv, ha⟩
    · by_cases h2 : b ∈ Pl cs
      · rw [at_t b h2] at z
        obtain rfl := Option.some.inj z
        exact inT h2
      · rw [off b h1 h2] at z
        exact nomatch z
  · -- the script is of the written part
    have e := KX a o hk
    rw [ha] at e
    obtain rfl := Option.some.inj e
    let H : Hp := fun b => if b ∈ Pl cs then some (.tbl #[]) else none
    have at_t : ∀ b, b ∈ Pl cs → H b = some (.tbl #[]) := fun b hb => if_pos hb
    have off : ∀ b, b ∉ Pl cs → H b = none := fun b h2 => if_neg h2
    have hH : TabH cs a H := ⟨fun p hp => at_t _ (mem p hp), fun b u z => by
      by_cases h2 : b ∈ Pl cs
      · rw [at_t b h2] at z
        exact .inr ⟨h2, (Option.some.inj z).symm⟩
      · rw [off b h2] at z
        exact nomatch z⟩
    refine call_tabs (H := H) KX hns hb hbb hlim hg hbm hT ha hr F hbind (hsp H hH.tab (.inr ⟨_, vs.toArray, _, hk, rfl, rfl, rfl, by rw [List.size_toArray, lenV]; exact hl, rv⟩)) ?_ hH (fun z => absurd (off a naT) z)
    intro b u z
    by_cases h2 : b ∈ Pl cs
    · rw [at_t b h2] at z
      obtain rfl := Option.some.inj z
      exact inT h2
    · rw [off b h2] at z
      exact nomatch z
end
/-- the end of such a law's proof -/
theorem walk_lawT {l : PySem.W.OpenLaw} {k : Nat} {q : Program} {loose : List Str} {XP : (Str → Option Value) → Heap → Prop}
    {YP : World → Heap → Prop} {d : DefRec} {K : Params → PySem.W.Frag} {sp : List (Addr × Addr) → PySem.W.Frag → Sp} {x : Str}
    (hn : l.most = some 63) (hdf : d.params.defaults = []) (hr : Room k callerA)
    (hY : ∀ (w : World) (h : Heap), YP w h → (K w.params).In h)
    (F : ∀ (w : World) (mg : Str → Option Value) (fa : Addr) (h : Heap), (K w.params).In h → h.Ns mainGlobals mg →
      mg d.name = some (.ref fa) → ∃ (cs : List (Addr × Addr)) (fd : FuncData), (∀ p ∈ cs, ∃ y, LamDef q (K w.params) y p.1 p.2) ∧ (∀ (s : Shared) (u : Value), BindsTo s fd ⟨[u], []⟩ [(x, u)]) ∧
        ∀ base : Heap, (K w.params).In base → base.Ns mainGlobals mg → (∀ p ∈ cs, LamX.TabB base mg p.1 p.2) →
          FnG l.prog w (K w.params) mg base k fa fd [x] (sp cs (K w.params)))
    (hsp : ∀ (cs : List (Addr × Addr)) (K : PySem.W.Frag) (H : Hp) (a : Addr) (ns : List Int), ns.length ≤ 63 → (∀ p ∈ cs, H p.2 = some (.tbl #[])) → SqL K H a (ns.map V.int) →
      sp cs K [.ref a] H (fun v _ => v = .bl true) E0) :
    PySem.W.WalkO q loose XP YP l.row.toRowW d [] (fun f vs => PySem.call f vs) := by
  refine Att.attach_call hn hdf ?_
  intro w s₀ s₁ mg mb fa o pm cd doc a vs ns G Y ho hd hcd hmg hobj hints hlen hg
  obtain ⟨cs, fd, hL, hb, hF⟩ := F w mg fa _ (hY w _ Y) G.T.g hmg
  refine call_lawT (hY w _ Y) G.T.g G.T.b G.T.builtins G.T.nolimit hg G.T.bmain (fun p hp => ?_) hobj hints
    (Nat.le_trans hlen (by decide)) hr hF hb (fun H hO hS => hsp cs _ H a ns hlen hO hS)
  obtain ⟨y, ⟨d', hrec⟩, htab, hout⟩ := hL p hp
  obtain ⟨h1, h2⟩ := PySem.W.tab_of G.T (hY w _ Y) hrec htab
  exact ⟨h1, h2, hout⟩
end Sg
set_option Elab.async false
set_option linter.all false
set_option maxRecDepth 100000
set_option maxHeartbeats 4000000
namespace Sg
open PySem PySem.Spec PyProof.Rows L2
/-! ## any data -/
mutual
theorem Dp.same {K : PySem.W.Frag} {H H' : Hp} (e : Same H H') : ∀ {v : V} {d : PyData}, Dp K H v d → Dp K H' v d
  | _, _, .non => .non
  | _, _, .bl b => .bl b
  | _, _, .int i => .int i
  | _, _, .str x => .str x
  | _, _, .lst h r => .lst (e.seq h) (DpAll.same e r)
  | _, _, .tup h r => .tup (Same.tup e h) (DpAll.same e r)
theorem DpAll.same {K : PySem.W.Frag} {H H' : Hp} (e : Same H H') : ∀ {vs : List V} {ds : List PyData}, DpAll K H vs ds → DpAll K H' vs ds
  | _, _, .nil => .nil
  | _, _, .cons a r => .cons (Dp.same e a) (DpAll.same e r)
end
theorem DpAll.app {K : PySem.W.Frag} {H : Hp} : ∀ {vs us : List V} {ds es : List PyData}, DpAll K H vs ds → DpAll K H us es → DpAll K H (vs ++ us) (ds ++ es)
  | _, _, _, _, .nil, g => g
  | _, _, _, _, .cons a r, g => .cons a (DpAll.app r g)
theorem DpAll.len {K : PySem.W.Frag} {H : Hp} : ∀ {vs : List V} {ds : List PyData}, DpAll K H vs ds → vs.length = ds.length
  | _, _, .nil => rfl
  | _, _, .cons _ r => congrArg (· + 1) (DpAll.len r)
theorem DpAll.at {K : PySem.W.Frag} {H : Hp} : ∀ {vs : List V} {ds : List PyData} {i : Nat} {v : V}, DpAll K H vs ds → vs[i]? = some v → ∃ d, ds[i]? = some d ∧ Dp K H v d
  | _, _, _, _, .nil, h => nomatch h
  | _, _, 0, _, .cons a _, h => by cases h; exact ⟨_, rfl, a⟩
  | _, _, i + 1, _, .cons _ r, h => DpAll.at (i := i) r h
theorem DpAll.mem {K : PySem.W.Frag} {H : Hp} {vs : List V} {ds : List PyData} (h : DpAll K H vs ds) {v : V} (hv : v ∈ vs) : ∃ d ∈ ds, Dp K H v d := by
  obtain ⟨i, hi⟩ := List.mem_iff_getElem?.mp hv
  obtain ⟨d, h1, h2⟩ := DpAll.at h hi
  exact ⟨d, List.mem_of_getElem? h1, h2⟩
/-! ints and tuples of them: nothing that changes is read -/
mutual
theorem Tp.reads0 {X : Cx} {pins : List (Addr × Obj)} {σ : L2.St} {H : Hp} {s : Shared} (I : Inv X pins σ H s) : ∀ (d : PyData) (v : V) (u : Value), Tp X.K H v d → RelV v u → Reads s.heap u d []
  | .int i, _, _, h, r => by
    cases h
    obtain ⟨t, rfl⟩ := r
    exact .int i t
  | .tuple ds, _, _, h, r => by
    cases h with
    | tu hs ha =>
      cases r
      obtain ⟨its, rv, ⟨o, ho, hc, n, hd⟩, _⟩ := I.tuple hs
      exact .tuple ho hc hd (TpAll.reads0 I ds _ its ha rv)
  | .none, _, _, h, _ => by cases h
  | .bool _, _, _, h, _ => by cases h
  | .str _, _, _, h, _ => by cases h
  | .list _, _, _, h, _ => by cases h
  | .dict _, _, _, h, _ => by cases h
theorem TpAll.reads0 {X : Cx} {pins : List (Addr × Obj)} {σ : L2.St} {H : Hp} {s : Shared} (I : Inv X pins σ H s) : ∀ (ds : List PyData) (vs : List V) (us : List Value), TpAll X.K H vs ds → Vals vs us → ReadsAll s.heap us ds []
  | [], _, _, h, r => by
    cases h
    cases r
    exact .nil
  | d :: ds, _, _, h, r => by
    cases h with
    | on h1 h2 =>
      cases r with
      | cons r1 r2 => exact ReadsAll.cons (as := []) (bs := []) (Tp.reads0 I d _ _ h1 r1) (TpAll.reads0 I ds _ _ h2 r2)
end
mutual
theorem Dp.noDict {K : PySem.W.Frag} {H : Hp} : ∀ {v : V} {d : PyData}, Dp K H v d → d.hasDict = false
  | _, _, .non => by simp only [PyData.hasDict]
  | _, _, .bl _ => by simp only [PyData.hasDict]
  | _, _, .int _ => by simp only [PyData.hasDict]
  | _, _, .str _ => by simp only [PyData.hasDict]
  | _, _, .lst _ r => by simp only [PyData.hasDict]; exact DpAll.noDict r
  | _, _, .tup _ r => by simp only [PyData.hasDict]; exact DpAll.noDict r
theorem DpAll.noDict {K : PySem.W.Frag} {H : Hp} : ∀ {vs : List V} {ds : List PyData}, DpAll K H vs ds → PyData.hasDictAll ds = false
  | _, _, .nil => by simp only [PyData.hasDictAll]
  | _, _, .cons a r => by simp only [PyData.hasDictAll, Dp.noDict a, DpAll.noDict r, Bool.or_self]
end
/-- a dict: empty, or one int for one value of ints and tuples -/
inductive DicD (K : PySem.W.Frag) (H : Hp) : List (L2.Key × V) → List (PyData × PyData) → Prop
  | no : DicD K H [] []
  | one {i : Int} {v : V} {d : PyData} : Tp K H v d → DicD K H [(.inl i, v)] [(.int i, d)]
/-- any data: a dict at most on top -/
inductive Aq (K : PySem.W.Frag) (H : Hp) : V → PyData → Prop
  | data {v : V} {d : PyData} : Dp K H v d → Aq K H v d
  | dic {a : Addr} {kvs : List (L2.Key × V)} {ds : List (PyData × PyData)} : H a = some (.dK kvs) → DicD K H kvs ds → Aq K H (.ref a) (.dict ds)
theorem Aq.same {K : PySem.W.Frag} {H H' : Hp} (e : Same H H') {v : V} {d : PyData} (h : Aq K H v d) : Aq K H' v d := by
  cases h with
  | data h => exact .data (Dp.same e h)
  | dic h g =>
    refine .dic (e _ _ h) ?_
    cases g with
    | no => exact .no
    | one t => exact .one (t.stay (.of e))
/-- what may be shown -/
structure GoodD (d : PyData) : Prop where
  sh : d.showable = true
  dp : d.depth ≤ 40
  lv : d.leavesShort 24 = true
  bk : d.bulk ≤ 400000
theorem GoodD.short {d : PyData} (h : GoodD d) : d.shown.length ≤ sizeLine := by
  have h1 := PyData.shown_le_bulk 24 (by decide) d h.lv
  have h2 := h.bk
  have h4 : sizeLine = 16777216 := sizeLine_eq
  omega
def goodB (d : PyData) : Bool := d.showable && decide (d.depth ≤ 40) && d.leavesShort 24 && decide (d.bulk ≤ 400000)
theorem good_by {d : PyData} (h : goodB d = true) : GoodD d := by
  unfold goodB at h
  simp only [Bool.and_eq_true, decide_eq_true_eq] at h
  exact ⟨h.1.1.1, h.1.1.2, h.1.2, h.2⟩
/-- some data that may be shown -/
def AnyV (K : PySem.W.Frag) (H : Hp) (v : V) : Prop := ∃ d, Aq K H v d ∧ GoodD d
theorem AnyV.same {K : PySem.W.Frag} {H H' : Hp} (e : Same H H') {v : V} (h : AnyV K H v) : AnyV K H' v := by
  obtain ⟨d, h1, h2⟩ := h
  exact ⟨d, h1.same e, h2⟩
def AllAny (K : PySem.W.Frag) (H : Hp) (vs : List V) : Prop := ∀ v ∈ vs, AnyV K H v
theorem AllAny.same {K : PySem.W.Frag} {H H' : Hp} (e : Same H H') {vs : List V} (h : AllAny K H vs) : AllAny K H' vs := fun v hv => (h v hv).same e
theorem AllAny.app {K : PySem.W.Frag} {H : Hp} {vs us : List V} (h : AllAny K H vs) (g : AllAny K H us) : AllAny K H (vs ++ us) := fun v hv => (List.mem_append.mp hv).elim (h v) (g v)
theorem AllAny.nil {K : PySem.W.Frag} {H : Hp} : AllAny K H [] := fun _ h => nomatch h
theorem AllAny.cons {K : PySem.W.Frag} {H : Hp} {v : V} {vs : List V} (h : AnyV K H v) (g : AllAny K H vs) : AllAny K H (v :: vs) := fun u hu => (List.mem_cons.mp hu).elim (fun e => e ▸ h) (g u)
section
variable {X : Cx}
/-! ### repr(x) -/
theorem call_reprA {j : Nat} (hgd : X.A.guards = some []) (hr : Room j X.A) :
    CallR X (.builtin "repr") (fun xs H Q => ∃ v d, xs = [v] ∧ Aq X.K H v d ∧ GoodD d ∧ Q (.str d.shown) H) := by
  intro pins s σ H xs us Q I r h
  obtain ⟨v, d, rfl, hd, hg, q⟩ := h
  obtain ⟨u, rfl, rx⟩ := vals1 r
  have hu := hr.units
  have hdp := hg.dp
  have fin : ∀ t : Nat, EP X pins σ Q (.str d.shown t) { s with toks := t + 1 } := fun t => ⟨.str d.shown, H, I.tok _, ⟨_, rfl⟩, q⟩
  have ref : ∀ a : Addr, u = .ref a → ∀ as, Reads s.heap (.ref a) d as → (d.hasDict = true → sysModules ∉ as) → wpAny (model X.prog X.w) X.A (call (.builtin "repr") [u]) (EP X pins σ Q) X.xe s := fun a e as rd hs => by
    subst e
    exact repr_of_reads' (h₀ := s.heap) rd hg.sh hs hgd (by omega) (fun _ _ z => z) (fun h' u tk hk => ⟨.str d.shown, H, I.kept hk, ⟨u, rfl⟩, q⟩) hg.short
  cases hd with
  | dic ha hD =>
    cases rx
    obtain ⟨z, hm, xs, rel, o, es, ep, ho, hx, hdat, hes, hp, hnd⟩ := dk_rd I.hok (.inl ha)
    cases hD with
    | no =>
      cases rel
      have he : es.toList = [] := by
        generalize es.toList = l at hp
        cases hp; rfl
      refine ref _ rfl _ (.dict (as := []) (bs := []) ho hx.1 hdat (by rw [he]; exact .nil) (by rw [he]; exact .nil)) fun _ y => ?_
      have y' := List.mem_singleton.mp (show sysModules ∈ [_] from y)
      rw [← y'] at hm
      exact absurd hm (by simp)
    | one t =>
      cases rel with
      | cons r1 r2 =>
        cases r2
        rename_i b
        obtain ⟨k, y⟩ := b
        obtain ⟨ek, ry⟩ := r1
        have he : ∃ e : DictEntry, es.toList = [e] ∧ keyIs k e.key = true ∧ e.val = y := by
          generalize es.toList = l at hp
          cases hp with
          | cons h1 h2 h3 =>
            cases h3
            exact ⟨_, rfl, h1, h2⟩
        obtain ⟨e, he, hk, hv⟩ := he
        have ek' : (Sum.inl _ : L2.Key) = k := ek
        rw [← ek'] at hk
        obtain ⟨t0, e0⟩ := Value.isInt_shape hk
        refine ref _ rfl _ (.dict (as := []) (bs := []) ho hx.1 hdat ?_ ?_) fun _ y => ?_
        · rw [he]
          show ReadsAll s.heap [e.key] _ []
          rw [e0]
          exact ReadsAll.cons (as := []) (bs := []) (.int _ _) .nil
        · rw [he]
          show ReadsAll s.heap [e.val] _ []
          rw [hv]
          exact ReadsAll.cons (as := []) (bs := []) (Tp.reads0 I _ _ _ t ry) .nil
        · have y' := List.mem_singleton.mp (show sysModules ∈ [_] from y)
          rw [← y'] at hm
          exact absurd hm (by simp)
  | data hd =>
    cases hd with
    | non => cases rx; exact PySem.P.repr_of_none (fin _)
    | bl b => cases rx; exact PySem.P.repr_of_bool (by have := fin s.toks; cases b <;> exact this)
    | int i =>
      obtain ⟨t, rfl⟩ := rx
      have hs := hg.sh
      simp only [PyData.showable, decide_eq_true_eq] at hs
      exact PySem.P.repr_of_int hs (fin _)
    | str x =>
      obtain ⟨t, rfl⟩ := rx
      exact PySem.P.repr_of_str (fin _) hg.short
    | lst hs ha =>
      cases rx
      obtain ⟨as, rd⟩ := Dp.reads I _ _ _ (.lst hs ha) rfl
      exact ref _ rfl as rd fun z => by
        rw [Dp.noDict (Dp.lst hs ha)] at z; exact nomatch z
    | tup hs ha =>
      cases rx
      obtain ⟨as, rd⟩ := Dp.reads I _ _ _ (.tup hs ha) rfl
      exact ref _ rfl as rd fun z => by
        rw [Dp.noDict (Dp.tup hs ha)] at z; exact nomatch z
end
end Sg
set_option Elab.async false
set_option linter.all false
set_option maxRecDepth 100000
set_option maxHeartbeats 4000000
namespace Sg
open PySem PySem.Spec PyProof.Rows L2
/-! ## isinstance of any data -/
def tyN : PyData → String
  | .none => "NoneType"
  | .bool _ => "bool"
  | .int _ => "int"
  | .str _ => "str"
  | .list _ => "list"
  | .tuple _ => "tuple"
  | .dict _ => "dict"
theorem tyL {K : PySem.W.Frag} {H : Hp} {a : Addr} {xs : List V} (h : SqL K H a xs) : TyX K H (.ref a) (.type "list") := by
  rcases h with (h | ⟨o, h⟩) | ⟨o, _, _, h, hc, _⟩
  · exact .base (.lst h)
  · exact .base (.frz h)
  · exact .kList h hc
theorem aq_ty {K : PySem.W.Frag} {H : Hp} {v : V} {d : PyData} (h : Aq K H v d) : TyX K H v (.type (tyN d)) := by
  cases h with
  | dic h _ => exact .base (.dK h)
  | data h =>
    cases h with
    | non => exact .base .non
    | bl b => exact .base (.bl b)
    | int i => exact .base (.int i)
    | str x => exact .base (.str x)
    | lst h _ => exact tyL h
    | tup h _ => exact tyT h
def isS (u t : String) : Bool := decide (t = u) || (decide (u = "int") && decide (t = "bool"))
def isB (u : String) (d : PyData) : Bool := isS u (tyN d)
theorem tyN_mem (d : PyData) : tyN d ∈ ["NoneType", "bool", "int", "str", "list", "tuple", "dict"] := by
  cases d <;> simp [tyN]
theorem kit_table : ∀ t ∈ ["NoneType", "bool", "int", "str", "list", "tuple", "dict"], ∀ u ∈ ["tuple", "int", "bool", "str", "list"], kitB t u = some (isS u t) := by decide +kernel
theorem isB_kit {u : String} (hu : u = "tuple" ∨ u = "int" ∨ u = "bool" ∨ u = "str" ∨ u = "list") (d : PyData) : kitB (tyN d) u = some (isB u d) :=
  kit_table _ (tyN_mem d) u (by rcases hu with rfl | rfl | rfl | rfl | rfl <;> simp)
section
variable {X : Cx}
theorem call_isiA : CallR X (.builtin "isinstance") (fun xs H Q => ∃ v d u, xs = [v, .ty u] ∧ Aq X.K H v d ∧ (u = "tuple" ∨ u = "int" ∨ u = "bool" ∨ u = "str" ∨ u = "list") ∧ Q (.bl (isB u d)) H) := by
  intro pins s σ H xs us Q I r h
  obtain ⟨v, d, u, rfl, hd, hu, q⟩ := h
  exact call_isi pins s σ H _ us Q I r ⟨v, .ty u, _, _, _, rfl, .ty _, aq_ty hd, kit_ty (isB_kit hu d), q⟩
/-- no data is an instance of this class -/
def NoInst (K : PySem.W.Frag) (C : Addr) : Prop := ∀ d : PyData, PySem.W.kitOne K (.type (tyN d)) (.ref C) = some false
theorem noInst_by {K : PySem.W.Frag} {C : Addr} (h1 : PySem.W.kitOne K (.type "NoneType") (.ref C) = some false) (h2 : PySem.W.kitOne K (.type "bool") (.ref C) = some false) (h3 : PySem.W.kitOne K (.type "int") (.ref C) = some false)
    (h4 : PySem.W.kitOne K (.type "str") (.ref C) = some false) (h5 : PySem.W.kitOne K (.type "list") (.ref C) = some false) (h6 : PySem.W.kitOne K (.type "tuple") (.ref C) = some false) (h7 : PySem.W.kitOne K (.type "dict") (.ref C) = some false) : NoInst K C := fun d => by
  cases d <;> assumption
end
theorem isB_tup {d : PyData} : isB "tuple" d = true ↔ ∃ ds, d = .tuple ds := by
  cases d <;> simp [isB, isS, tyN]
/-- an int that is no bool -/
def isIntD : PyData → Bool
  | .int _ => true
  | _ => false
def betD (d : PyData) (l m : Int) : Bool := match d with
  | .int i => decide (l ≤ i) && decide (i ≤ m)
  | _ => false
/-! ## displays of constants -/
def mapO (f : Expr → Option PyData) : List Expr → Option (List PyData)
  | [] => some []
  | e :: es => match f e, mapO f es with
    | some d, some ds => some (d :: ds)
    | _, _ => none
def constE : Nat → Expr → Option PyData
  | 0, _ => none
  | _ + 1, .Constant .none _ _ => some .none
  | _ + 1, .Constant (.bool b) _ _ => some (.bool b)
  | _ + 1, .Constant (.int i) _ _ => some (.int i)
  | _ + 1, .Constant (.str x) _ _ => some (.str x)
  | _ + 1, .UnaryOp .USub (.Constant (.int i) _ _) _ => some (.int (-i))
  | _ + 1, .BinOp (.Constant (.int a) _ _) .Pow (.Constant (.int b) _ _) _ => if 0 ≤ b ∧ b ≤ 18 ∧ a = 10 then some (.int (a ^ b.toNat)) else none
  | n + 1, .Tuple es _ _ => if es.length ≤ 1000 then (mapO (constE n) es).map .tuple else none
  | n + 1, .List es _ => if es.length ≤ 1000 then (mapO (constE n) es).map .list else none
  | _, _ => none
def constD (n : Nat) : Expr → Option PyData
  | .Dict [] [] _ => some (.dict [])
  | .Dict [some (.Constant (.int k) _ _)] [.Constant (.int v) _ _] _ => some (.dict [(.int k, .int v)])
  | e => constE n e
theorem PE.imp {X : Cx} {e : Expr} {t t' : TE} (h : PE X e t) (i : ∀ σ H Q, t' σ H Q → t σ H Q) : PE X e t' := ⟨fun pins s σ H Q I q => h.run pins s σ H Q I (i _ _ _ q)⟩
theorem same_refl (H : Hp) : Same H H := fun _ _ h => h
/-- what is new since H -/
def nw (H H' : Hp) : Hp := fun b => match H b with
  | none => H' b
  | some _ => none
/-- all but what stands at p -/
def wo (p : Addr) (H : Hp) : Hp := fun b => if b = p then none else H b
theorem nw_none {H H' : Hp} {b : Addr} (h : H b = none) : nw H H' b = H' b := by unfold nw; rw [h]
theorem nw_some {H H' : Hp} {b : Addr} {o : HO} (h : nw H H' b = some o) : H b = none ∧ H' b = some o := by
  unfold nw at h
  rcases z : H b with _ | u
  · rw [z] at h; exact ⟨rfl, h⟩
  · rw [z] at h; exact nomatch h
theorem nw_same {H H1 H2 : Hp} (e : Same H1 H2) : Same (nw H H1) (nw H H2) := fun b o h => by
  obtain ⟨h1, h2⟩ := nw_some h
  rw [nw_none h1]; exact e _ _ h2
theorem nw_left {H H1 H2 : Hp} (e : Same H H1) : Same (nw H1 H2) (nw H H2) := fun b o h => by
  obtain ⟨h1, h2⟩ := nw_some h
  have : H b = none := by
    rcases z : H b with _ | u
    · rfl
    · rw [e _ _ z] at h1; exact nomatch h1
  rw [nw_none this]; exact h2
theorem nw_sub {H H' : Hp} : Same (nw H H') H' := fun b o h => (nw_some h).2
theorem wo_some {p b : Addr} {H : Hp} {o : HO} (h : wo p H b = some o) : b ≠ p ∧ H b = some o := by
  unfold wo at h
  by_cases z : b = p
  · rw [if_pos z] at h; exact nomatch h
  · rw [if_neg z] at h; exact ⟨z, h⟩
theorem wo_ne {p b : Addr} {H : Hp} (h : b ≠ p) : wo p H b = H b := by unfold wo; rw [if_neg h]
theorem wo_sub {p : Addr} {H : Hp} : Same (wo p H) H := fun b o h => (wo_some h).2
theorem wo_but {p : Addr} {H H' : Hp} (e : But p H H') : Same (wo p H) (wo p H') := fun b o h => by
  obtain ⟨h1, h2⟩ := wo_some h
  rw [wo_ne h1]; exact e _ _ h1 h2
theorem wo_same {p : Addr} {H H' : Hp} (e : Same H H') : Same (wo p H) (wo p H') := fun b o h => by
  obtain ⟨h1, h2⟩ := wo_some h
  rw [wo_ne h1]; exact e _ _ h2
theorem nw_wo {p : Addr} {H H' : Hp} {o : HO} (h : H p = some o) : Same (nw H H') (wo p H') := fun b u g => by
  obtain ⟨h1, h2⟩ := nw_some g
  rw [wo_ne (fun z => by rw [z, h] at h1; exact nomatch h1)]; exact h2
theorem same_none {H H' : Hp} (e : Same H H') {b : Addr} (h : H' b = none) : H b = none := by
  rcases z : H b with _ | u
  · rfl
  · rw [e _ _ z] at h; exact nomatch h
def tData (K : PySem.W.Frag) (d : PyData) : TE := fun _ H Q => ∀ H' v, Same H H' → Dp K (nw H H') v d → Q v H'
def tDatas (K : PySem.W.Frag) (ds : List PyData) : TA := fun _ H Q => ∀ H' vs, Same H H' → DpAll K (nw H H') vs ds → Q vs H'
theorem constE_star {n : Nat} {e : Expr} {d : PyData} (h : constE n e = some d) : ∀ (es : List Expr) (env : Env), starEach (e :: es) env = (false, eval e env) :: starEach es env := by
  intro es env
  cases e with
  | Starred v p => cases n <;> simp [constE] at h
  | _ => rfl
theorem constE_ok {X : Cx} : ∀ (n : Nat) (e : Expr) (d : PyData), constE n e = some d → PE X e (tData X.K d) := by
  intro n
  induction n with
  | zero => intro e d h; exact nomatch h
  | succ n ih =>
    have big : 1000 ≤ sizeLine := by rw [sizeLine_eq]; decide
    have all : ∀ (es : List Expr) (ds : List PyData), mapO (constE n) es = some ds → PA X es (tDatas X.K ds) ∧ ds.length = es.length := by
      intro es
      induction es with
      | nil =>
        intro ds h
        cases h
        exact ⟨⟨fun pos pins s σ H Q I h => pa_nil.run pos pins s σ H Q I (h H [] (same_refl H) .nil)⟩, rfl⟩
      | cons e es ihe =>
        intro ds h
        unfold mapO at h
        split at h
        · rename_i d ds' h1 h2
          cases h
          obtain ⟨g1, g2⟩ := ihe ds' h2
          refine ⟨⟨fun pos pins s σ H Q I h => (pa_cons (ih e d h1) g1 (constE_star h1 _ _)).run pos pins s σ H Q I ?_⟩, by rw [List.length_cons, List.length_cons, g2]⟩
          exact fun H1 v e1 hv => fun H2 vs e2 hvs => h H2 (v :: vs) (e1.trans e2) (.cons (Dp.same (nw_same e2) hv) (DpAll.same (nw_left e1) hvs))
        · exact nomatch h
    intro e d h
    unfold constE at h
    split at h
    · exact absurd ‹_› (by simp)
    · cases h; exact PE.imp pe_non fun σ H Q q => q H _ (same_refl H) .non
    · cases h; exact PE.imp pe_bl fun σ H Q q => q H _ (same_refl H) (.bl _)
    · cases h; exact PE.imp pe_int fun σ H Q q => q H _ (same_refl H) (.int _)
    · cases h; exact PE.imp pe_str fun σ H Q q => q H _ (same_refl H) (.str _)
    · cases h; exact PE.imp (pe_un un_neg pe_int) fun σ H Q q => ⟨_, rfl, q H _ (same_refl H) (.int _)⟩
    · rename_i a j1 p1 b j2 p2 p3 m hm
      split at h
      · rename_i hc
        cases h
        obtain ⟨h1, h2, rfl⟩ := hc
        exact PE.imp (pe_op op_pow pe_int pe_int) fun σ H Q q => ⟨_, _, rfl, rfl, ⟨h1, by omega, by decide⟩, q H _ (same_refl H) (.int _)⟩
      · exact nomatch h
    · rename_i n' es k p hn
      cases hn
      split at h
      · rename_i hl
        obtain ⟨ds, h1, rfl⟩ := Option.map_eq_some_iff.mp h
        obtain ⟨g1, g2⟩ := all es ds h1
        refine PE.imp (pe_tup g1) fun σ H Q q => ?_
        intro H1 vs e1 hvs
        refine ⟨by have := DpAll.len hvs; omega, fun t nt => q _ _ (e1.trans (same_new nt)) (.tup (.of ((nw_none (same_none e1 nt)).trans upd_same)) (DpAll.same (nw_same (same_new nt)) hvs))⟩
      · exact nomatch h
    · rename_i n' es p hn
      cases hn
      split at h
      · rename_i hl
        obtain ⟨ds, h1, rfl⟩ := Option.map_eq_some_iff.mp h
        obtain ⟨g1, g2⟩ := all es ds h1
        refine PE.imp (pe_lst g1) fun σ H Q q => ?_
        intro H1 vs e1 hvs
        refine ⟨by have := DpAll.len hvs; omega, fun t nt => q _ _ (e1.trans (same_new nt)) (.lst (.of ((nw_none (same_none e1 nt)).trans upd_same)) (DpAll.same (nw_same (same_new nt)) hvs))⟩
      · exact nomatch h
    · exact nomatch h
/-! ### any constant, a list of them -/
end Sg
set_option Elab.async false
set_option linter.all false
set_option maxRecDepth 100000
set_option maxHeartbeats 4000000
namespace Sg
open PySem PySem.Spec PyProof.Rows L2
/-! ## defs that are handed an exception, in an except suite -/
/-- p: the exception's place and object -/
structure FnE (P : Program) (w : World) (K : PySem.W.Frag) (mg : Str → Option Value) (base : Heap) (k : Nat) (f : Addr) (fd : FuncData) (ps : List Str) (sp : Addr × Obj → Sp) : Prop where
  arity : ∀ p vs H Q, sp p vs H Q E0 → vs.length = ps.length
  go : ∀ (A : Around) (outer : List Env) (s : Shared) (H : Hp) (args : Args) (us : List Value) (vs : List V) (Q : VK) (p : Addr × Obj),
    L2H.RoomH k A → L2H.PinOk outer H s p → Env0 P w K mg base A outer s H → BindsTo s fd args (ps.zip us) → Vals vs us → sp p vs H Q E0 →
    codeAny (model P w) A (.call (.ref f) args) (CR CX0 outer P w H s Q E0) s
section
variable {P : Program} {w : World} {K : PySem.W.Frag} {mg : Str → Option Value} {base : Heap} {k : Nat} {f : Addr}
variable {fd : FuncData} {ps : List Str} {sp : Addr × Obj → Sp}
theorem FnE.mono {j : Nat} (F : FnE P w K mg base j f fd ps sp) (h : j ≤ k) : FnE P w K mg base k f fd ps sp :=
  ⟨F.arity, fun A outer s H args us vs Q p hr => F.go A outer s H args us vs Q p (hr.mono h)⟩
theorem fnE_mk {x qual : Str} {st : Stmt} {N : List Str} (F : Fun K x qual st f fd)
    (S : FnScope N ps (defScope st)) (arity : ∀ p vs H Q, sp p vs H Q E0 → vs.length = ps.length)
    (hbody : ∀ (cdv : Value) (A : Around) (outer : List Env) (s : Shared) (H : Hp) (vs : List V) (Q : VK) (p : Addr × Obj),
      L2H.RoomH k (A.deeper (envOfC qual (defScope st) s.heap.objs.size f cdv)) → sp p vs H Q E0 →
      ∃ t, PSs (L2H.cxH CX0 P w K mg base N qual (defScope st) f cdv A outer s H E0 p) (defBody st) t ∧
        t { nx := fun _ H' => Q .non H', rt := Q } (start N vs) H) :
    FnE P w K mg base (k + 1) f fd ps sp := by
  obtain ⟨oc, od, kV, doc, pm, an, cdv, ct, osl, rfl, lk, hcd⟩ := F.ex
  refine ⟨arity, ?_⟩
  intro A outer s H args us vs Q p hr hpin e0 hb r hsp
  have hl := arity _ _ _ _ hsp
  have hk0 : ∀ b o, base.get? b = some o → s.heap.get? b = some o := fun b o e => (e0.bs b o e).1
  have KX : K.In s.heap := e0.mod.kin.keeps hk0
  have lim : s.heap.NoLimit := e0.mod.nolimit.keeps hk0
  refine codeAny_call_function hr.depth (KX _ _ lk) rfl S.co S.gen rfl (PySem.W.codeRec_of KX hcd) ?_
  refine hb _ _ _ _ (wpAny_newFunctionEnv_cells S.kind ?_ ?_)
  · rintro ⟨n, v⟩ hy
    have hn := S.par n (List.of_mem_zip hy).1
    cases hn with
    | inl q => exact .inl q
    | inr q => exact .inr ⟨q, PySem.W.cellsFrom_some _ _ _ (.inl q)⟩
  · intro env he s1 x
    subst he
    refine ⟨lim.keeps x.toInCall.keep, ?_⟩
    apply codeAny_func
    obtain ⟨t, ht, hq⟩ := hbody cdv A outer s H vs Q p (hr.deeper _) hsp
    have I := L2H.inv_startH (CX := CX0) (E := E0) (cd := cdv) (qual := qual) (f := f) S hpin e0 hl r x
    refine wpAny_mono (ht.run [] s1 (start N vs) H _ I hq) ?_ (fun e s' hs => hs)
    intro fl s' hs
    cases fl with
    | ret u =>
      obtain ⟨v, σ', H', J, rv, q⟩ := hs
      exact ⟨v, H', J.os, J.bare, J.base, J.hok, rv, q⟩
    | next =>
      obtain ⟨σ', H', J, q⟩ := hs
      exact ⟨V.non, H', J.os, J.bare, J.base, J.hok, rfl, q⟩
    | brk => obtain ⟨_, _, _, q⟩ := hs; exact q.elim
    | cont => obtain ⟨_, _, _, q⟩ := hs; exact q.elim
end
section
variable {X : Cx} {k : Nat} {f : Addr} {fd : FuncData} {ps : List Str} {sp : Addr × Obj → Sp}
variable {x : Str} {q pos : Pos} {e : Expr} {es : List Expr} {t : TA} {p : Addr × Obj}
/-- f(e, ..) of such a def, p the exception that is handed over -/
theorem pe_callE (F : FnE X.prog X.w X.K X.mg X.base k f fd ps sp) (hp : p ∈ X.pn) (hr : L2H.RoomH k X.A)
    (hg : Gl X x) (hm : X.mg x = some (.ref f)) (hk : PySem.W.keepIn X.K (.ref f) = true) (hb : Binds X.K fd ps [])
    (ha : PA X (e :: es) t) (hdb : (x == ("__debug__" : Str)) = false := by decide)
    (he : starEach (e :: es) X.env = (false, eval e X.env) :: starEach es X.env := by rfl)
    (hpl : (backTo pos (starEach es X.env)).any (·.1) = false := by rfl) :
    PE X (.Call (.Name x q) (e :: es) [] pos) (tCall (sp p) [] E0 t) := by
  constructor
  intro pins s σ H Q I h
  refine wpAny_Call_Name_kw (ld_glob I hg hm (PySem.W.callWith_K (h₀ := X.base) I.ok.mod.kin hk ?_ he hpl) hdb)
  refine thn (ha.run pos pins s σ H _ I h) ?_
  rintro us s1 ⟨vs, H1, I1, r, q⟩
  refine ⟨I1.kIn, ?_⟩
  rw [List.append_nil] at q
  have hl : (us ++ []).length = ps.length := by rw [List.append_nil, ← r.length]; exact F.arity _ _ _ _ q
  have hbb := hb s1 us I1.kIn hl
  rw [List.append_nil] at hbb
  obtain ⟨p1, p2, p3, p4, p5⟩ := I1.pin p (List.mem_append_left _ hp)
  have hpin : L2H.PinOk X.stack H1 s1 p := ⟨p1, p2, fun hm => (List.mem_cons.mp (I1.stkSub p.1 hm)).elim p3 p4, p5⟩
  refine wpAny_call (codeAny_mono (F.go X.A X.stack s1 H1 ⟨us, []⟩ us vs Q p hr hpin I1.env0 hbb r q) ?_)
  intro r' s' hq
  match r', hq with
  | .error _, hq => exact hq.elim
  | .ok (.ret _), hq => exact I1.after hq
  | .ok .next, hq => exact hq.elim
  | .ok .brk, hq => exact hq.elim
  | .ok .cont, hq => exact hq.elim
/-- isinstance(e, c), e an exception that is known to stand there -/
theorem call_isP {K : PySem.W.Frag} {D : Addr} (hK : X.K = K) (hp : p ∈ X.pn) (C : ExcC K D) (hz : Zc (.ref D) none p.2) (hf : ∃ vs, p.2.data = .fields vs) : CallR X (.builtin "isinstance") (rIsE K D p.1) := by
  subst hK
  intro pins s σ H xs us Q I r h
  obtain ⟨c, cv, b, rfl, hcv, e, q⟩ := h
  obtain ⟨u1, u2, rfl, r1, r2⟩ := vals2 r
  cases r1
  obtain rfl := hcv _ r2
  have hget := (I.pin p (List.mem_append_left _ hp)).1
  obtain ⟨vs, hv⟩ := hf
  have J : PySem.W.InstAt s.heap p.1 p.2 D none := by
    obtain ⟨pa, ⟨oc, od, oda, osl⟩⟩ := p
    obtain ⟨h1, h2⟩ := hz
    dsimp only at h1 h2 hv
    subst h1 h2 hv
    exact ⟨hget, rfl, rfl, trivial⟩
  exact PySem.W.kia_one (PySem.W.handS_kitx_exc C.hg C.hk C.hs C.hd C.ha C.hn C.ht C.hm) I.kIn J e (fun z => nomatch z) fun tk => ⟨.bl b, H, I.tok tk, rfl, q⟩
/-- l.count(True), l a list of truths -/
theorem mt_lcountB : MtR X "list.count" (fun x xs H Q => ∃ (p : Addr) (bs : List Bool), x = .ref p ∧ xs = [.bl true] ∧ SqL X.K H p (bs.map V.bl) ∧ Q (.int (bs.count true : Nat)) H) := by
  intro pins s σ H x xs v us Q I rx rxs h
  obtain ⟨p, bs, rfl, rfl, hs, q⟩ := h
  cases rx
  obtain ⟨u, rfl, ru⟩ := rxs.one
  obtain rfl : u = Value.bool true := ru
  obtain ⟨its, rv, ⟨⟨cls, dd, data, sl⟩, n, ho, hc, hdn, hd⟩, hlen⟩ := I.list hs
  simp only at hc hd
  subst hc hd
  have fl : (bs.map V.bl).all flatV = true := by
    rw [List.all_eq_true]
    intro y hy
    obtain ⟨b, _, rfl⟩ := List.mem_map.mp hy
    rfl
  have ei : its = bs.map Value.bool := by
    clear ho hlen fl hs q hdn
    induction bs generalizing its with
    | nil => cases rv; rfl
    | cons b r ih =>
      cases rv with
      | cons a t =>
        rw [List.map_cons, ← ih _ t]
        cases a; rfl
  have ec : its.toArray.toList.countP (eqU (V.bl true)) = bs.count true := by
    rw [ei]
    show (bs.map Value.bool).countP _ = _
    rw [List.countP_map, List.count_eq_countP]
    refine List.countP_congr fun b _ => ?_
    cases b <;> simp [eqU, eqV]
  refine call_meets PySem.F.slot_list_count ⟨_, ho, rfl⟩ PySem.F.entry_list_count (PySem.F.args_list_count_2 _ _)
    (SeqAt.list_countAt p its.toArray n dd sl (.bool true) (eqU (V.bl true))) ⟨ho, fun y hy => mem_eqAt (x := V.bl true) rfl rfl rv fl y (by simpa using hy), ?_⟩
  refine ⟨.int (bs.count true : Nat), H, I.tok _, ⟨s.toks, ?_⟩, q⟩
  rw [← ec]
end
end Sg
set_option Elab.async false
set_option linter.all false
set_option maxRecDepth 100000
set_option maxHeartbeats 4000000
namespace Sg
open PySem PySem.Spec PyProof.Rows L2
/-! ## tuples whose object is told: their methods -/
def FrzT (H : Hp) (a : Addr) (xs : List V) : Prop := ∃ ob, H a = some (.frz ob (.tup xs)) ∧ ob.cls = .type "tuple" ∧ ob.dict = none
theorem FrzT.same {H H' : Hp} (e : Same H H') {a : Addr} {xs : List V} (h : FrzT H a xs) : FrzT H' a xs := by
  obtain ⟨ob, h1, h2⟩ := h
  exact ⟨ob, e _ _ h1, h2⟩
theorem FrzT.but {p : Addr} {H H' : Hp} (e : But p H H') {a : Addr} {xs : List V} (h : FrzT H a xs) (n : a ≠ p) : FrzT H' a xs := by
  obtain ⟨ob, h1, h2⟩ := h
  exact ⟨ob, e _ _ n h1, h2⟩
section
variable {X : Cx} {o e : Expr} {es : List Expr} {to : TE} {t : TA} {name : Str} {apos cpos : Pos} {id : String} {r : V → List V → Hp → VK → Prop}
/-! ## a tuple times a number, up to 100,000 items -/
def rRepB (K : PySem.W.Frag) : R2 := fun x y H Q => ∃ l, ∃ k : Nat, ∃ xs, x = .ref l ∧ y = .int k ∧ SqT K H l xs ∧ xs ≠ [] ∧ 2 ≤ k ∧ k * xs.length ≤ 100000 ∧ ∀ p, H p = none → Q (.ref p) (upd H p (.tup (List.replicate k xs).flatten))
theorem op_repB : OpR X (binaryOp .Mult) (rRepB X.K) := by
  intro pins s σ H x y v u Q I rx ry h
  obtain ⟨l, k, xs, e1, e2, hT, hne, h1, hz, q⟩ := h
  subst e1 e2
  cases rx
  obtain ⟨t, et⟩ := ry
  subst et
  obtain ⟨its, r, ⟨⟨cls, dd, data, sl⟩, ho, hc, n, hd⟩, hs⟩ := I.tuple hT
  simp only at hc hd
  subst hc hd
  have lx : its.length = xs.length := r.length.symm
  have pos : 0 < xs.length := List.length_pos_iff.mpr hne
  have ne : its.toArray.isEmpty = false := by
    cases its with
    | nil => rw [← lx] at pos; exact absurd pos (by decide)
    | cons a b => rfl
  have sz : its.toArray.size = xs.length := by rw [List.size_toArray, lx]
  have prod : ((its.toArray.size : Nat) : Int) * (k : Nat) ≤ 100000 := by
    rw [sz, ← Int.natCast_mul, Nat.mul_comm]
    exact Int.ofNat_le.mpr hz
  have kle : k ≤ 100000 := Nat.le_trans (Nat.le_mul_of_pos_right k pos) hz
  have lim : (100000 : Nat) ≤ sizeLine := by rw [sizeLine_eq]; decide
  have flat : (List.replicate k its).flatten.length ≤ sizeLine := by
    rw [PyProof.Rows.lm_len_rep_flat, lx]
    exact Nat.le_trans hz lim
  have c0 : (decide (((k : Nat) : Int) < -(2 ^ 63)) || decide (((k : Nat) : Int) ≥ 2 ^ 63)) = false := by
    rw [decide_eq_false (by omega), decide_eq_false (by omega)]; rfl
  have c1 : (its.toArray.isEmpty || ((k : Nat) : Int) == 1) = false := by
    rw [ne, Bool.false_or]
    exact beq_eq_false_iff_ne.mpr (by omega)
  have c2 : (decide (((k : Nat) : Int) ≤ 0) || its.toArray.isEmpty) = false := by
    rw [ne, Bool.or_false]
    exact decide_eq_false (by omega)
  have c4 : Builtin.Tuple.tupleTooMany (((its.toArray.size : Nat) : Int) * (k : Nat)) = false := by
    unfold Builtin.Tuple.tupleTooMany
    refine decide_eq_false ?_
    have : ((100000 : Nat) : Int) ≤ (sizeLine : Int) := Int.ofNat_le.mpr lim
    omega
  have hmul := tuple_mulW l its.toArray n dd sl ((k : Nat) : Int) t c0 c1 c2 (by omega) c4 (by rw [size_rep, List.size_toArray]; exact flat)
  refine wpAny_binaryOp_repeat_ref (T := "tuple") (U := "int") (by decide) ⟨_, ho, rfl⟩ (fun s' => typeIs_int s' k t) noFill_tuple_mul PySem.F.fills_int_mul PySem.F.slot_int_rmul repeat_tuple PySem.F.slot_int_index.lookup
    (call_meets PySem.F.slot_int_rmul (typeIs_int s k t) PySem.F.entry_int_rmul (PySem.F.args_int_rmul_2 _ _) (int_rmul_tuple k t l its.toArray n dd sl)
      ⟨ho, rfl, ⟨_, ho, rfl⟩, call_meets PySem.F.slot_tuple_mul ⟨_, ho, rfl⟩ PySem.F.entry_tuple_mul (PySem.F.args_tuple_mul_2 _ _) hmul ⟨ho, ?_⟩⟩)
  rw [size_rep]
  have hnew : ObjOk X.prog X.w (upd H s.heap.objs.size (.tup (List.replicate k xs).flatten)) (s.heap.push { cls := .type "tuple", data := .seq (List.replicate ((k : Nat) : Int).toNat its).flatten.toArray }) s.heap.objs.size (.tup (List.replicate k xs).flatten) :=
    ⟨by rw [PyProof.Rows.lm_len_rep_flat]; exact Nat.le_trans hz lim, _, r.rep k, IsTup.new _ _⟩
  exact ⟨.ref s.heap.objs.size, _, I.laid (t' := s.toks) (fun b ob z => Heap.get?_push_of_some _ z) (Nat.le_refl _) hnew, rfl, q _ (I.hok.fresh (Nat.le_refl _))⟩
/-! ## a text times a number -/
def repS (z : Str) (n : Nat) : Str := ⟨(List.replicate n z.cps).foldl (· ++ ·) #[]⟩
theorem op_mulS : OpR X (binaryOp .Mult) (fun x y H Q => ∃ z, ∃ n : Nat, x = .str z ∧ y = .int n ∧ 2 ≤ n ∧ 2 ≤ z.length ∧ z.length * n ≤ 100000 ∧ Q (.str (repS z n)) H) := by
  intro pins s σ H x y v u Q I rx ry h
  obtain ⟨z, n, e1, e2, h1, h2, h3, q⟩ := h
  subst e1 e2
  obtain ⟨t, et⟩ := rx
  obtain ⟨t', et'⟩ := ry
  subst et et'
  have lim : (100000 : Nat) ≤ sizeLine := by rw [sizeLine_eq]; decide
  have nle : n ≤ 100000 := Nat.le_trans (Nat.le_mul_of_pos_left n (by omega)) h3
  have zle : z.length ≤ 100000 := Nat.le_trans (Nat.le_mul_of_pos_right z.length (by omega)) h3
  have ne1 : ¬ ((n : Nat) : Int) < 1 := by omega
  have no : (((n : Nat) : Int) == 1 || z.length == 0) = false := by
    rw [beq_eq_false_iff_ne.mpr (by omega), beq_eq_false_iff_ne.mpr (by omega)]; rfl
  refine SB.mul ⟨?_, fun _ _ => ?_, fun _ _ => ?_⟩ fun t' k => ?_
  · rw [decide_eq_false (by omega), decide_eq_false (by omega)]; rfl
  · have : ((z.length : Nat) : Int) ≤ (2 ^ 63 - 1) / ((n : Nat) : Int) := by
      rw [Int.le_ediv_iff_mul_le (by omega), ← Int.natCast_mul]
      exact Int.le_trans (Int.ofNat_le.mpr h3) (by decide)
    omega
  · unfold Builtin.Str.tooLong
    refine decide_eq_false ?_
    rw [Int.toNat_natCast]
    omega
  · have e : Txt.mul z ((n : Nat) : Int) = repS z n := by
      unfold Txt.mul
      rw [if_neg ne1, no, Int.toNat_natCast]; rfl
    rw [e]
    exact ⟨.str (repS z n), H, I.tok _, ⟨_, rfl⟩, q⟩
end
end Sg
set_option Elab.async false
set_option linter.all false
set_option maxRecDepth 100000
set_option maxHeartbeats 4000000
namespace Sg
open PySem PySem.Spec PyProof.Rows L2
/-! ## rows of data that may be shown -/
structure SmL (k : Nat) (ds : List PyData) : Prop where
  sh : PyData.showableAll ds = true
  dp : PyData.depthAll ds ≤ 38
  lv : PyData.leavesShortAll 24 ds = true
  bk : PyData.bulkAll ds ≤ k
def smB (k : Nat) (ds : List PyData) : Bool := PyData.showableAll ds && decide (PyData.depthAll ds ≤ 38) && PyData.leavesShortAll 24 ds && decide (PyData.bulkAll ds ≤ k)
theorem smL_by {k : Nat} {ds : List PyData} (h : smB k ds = true) : SmL k ds := by
  unfold smB at h
  simp only [Bool.and_eq_true, decide_eq_true_eq] at h
  exact ⟨h.1.1.1, h.1.1.2, h.1.2, h.2⟩
theorem SmL.le {k m : Nat} {ds : List PyData} (h : SmL k ds) (e : k ≤ m) : SmL m ds := ⟨h.sh, h.dp, h.lv, Nat.le_trans h.bk e⟩
theorem SmL.nil : SmL 0 [] := smL_by (by decide +kernel)
theorem SmL.cons {k m : Nat} {d : PyData} {ds : List PyData} (h : SmL k [d]) (g : SmL m ds) : SmL (k + m) (d :: ds) := by
  have h1 := h.sh; have h2 := h.dp; have h3 := h.lv; have h4 := h.bk
  simp only [PyData.showableAll, PyData.depthAll, PyData.leavesShortAll, PyData.bulkAll, Bool.and_true] at h1 h2 h3 h4
  refine ⟨?_, ?_, ?_, ?_⟩
  · simp only [PyData.showableAll, h1, g.sh, Bool.and_self]
  · simp only [PyData.depthAll]; have := g.dp; omega
  · simp only [PyData.leavesShortAll, h3, g.lv, Bool.and_self]
  · simp only [PyData.bulkAll]; have := g.bk; omega
theorem SmL.uncons {k : Nat} {d : PyData} {ds : List PyData} (h : SmL k (d :: ds)) : SmL k [d] ∧ SmL k ds := by
  have h1 := h.sh; have h2 := h.dp; have h3 := h.lv; have h4 := h.bk
  simp only [PyData.showableAll, PyData.depthAll, PyData.leavesShortAll, PyData.bulkAll, Bool.and_eq_true] at h1 h2 h3 h4
  refine ⟨⟨?_, ?_, ?_, ?_⟩, h1.2, by omega, h3.2, by omega⟩
  · simp only [PyData.showableAll, h1.1, Bool.and_self]
  · simp only [PyData.depthAll]; omega
  · simp only [PyData.leavesShortAll, h3.1, Bool.and_self]
  · simp only [PyData.bulkAll]; omega
theorem SmL.app {k m : Nat} : ∀ {ds es : List PyData}, SmL k ds → SmL m es → SmL (k + m) (ds ++ es)
  | [], _, _, g => g.le (Nat.le_add_left _ _)
  | d :: ds, es, h, g => by
    have h1 := h.sh; have h2 := h.dp; have h3 := h.lv; have h4 := h.bk
    simp only [PyData.showableAll, PyData.depthAll, PyData.leavesShortAll, PyData.bulkAll, Bool.and_eq_true] at h1 h2 h3 h4
    have i := SmL.app (k := PyData.bulkAll ds) ⟨h1.2, by omega, h3.2, Nat.le_refl _⟩ g
    have j := SmL.cons h.uncons.1 i
    refine ⟨j.sh, j.dp, j.lv, ?_⟩
    show PyData.bulkAll (d :: (ds ++ es)) ≤ _
    simp only [PyData.bulkAll]
    have := i.bk
    omega
theorem SmL.drop {k : Nat} : ∀ {ds : List PyData} (i : Nat), SmL k ds → SmL k (ds.drop i)
  | _, 0, h => h
  | [], _ + 1, h => h
  | _ :: _, i + 1, h => SmL.drop i h.uncons.2
theorem SmL.take {k : Nat} : ∀ {ds : List PyData} (i : Nat), SmL k ds → SmL k (ds.take i)
  | _, 0, h => by rw [List.take_zero]; exact SmL.nil.le (Nat.zero_le _)
  | [], _ + 1, h => h
  | d :: ds, i + 1, h => by
    have h4 := h.bk
    simp only [PyData.bulkAll] at h4
    have u := h.uncons
    have t := SmL.take (k := PyData.bulkAll ds) i ⟨u.2.sh, u.2.dp, u.2.lv, Nat.le_refl _⟩
    have j := SmL.cons (k := PyData.bulk d + 1) ⟨u.1.sh, u.1.dp, u.1.lv, by simp only [PyData.bulkAll]; omega⟩ t
    exact j.le h4
theorem SmL.rep {k : Nat} {ds : List PyData} (h : SmL k ds) : ∀ n : Nat, SmL (n * k) (List.replicate n ds).flatten
  | 0 => SmL.nil.le (Nat.zero_le _)
  | n + 1 => by
    rw [List.replicate_succ, List.flatten_cons]
    exact (SmL.app h (SmL.rep h n)).le (by rw [Nat.add_mul, Nat.one_mul]; omega)
theorem SmL.tup {k : Nat} {ds : List PyData} (h : SmL k ds) (e : k ≤ 400000) : GoodD (.tuple ds) :=
  ⟨by simp only [PyData.showable, h.sh], by simp only [PyData.depth]; have := h.dp; omega, by simp only [PyData.leavesShort, h.lv], by simp only [PyData.bulk]; exact Nat.le_trans h.bk e⟩
theorem SmL.lst {k : Nat} {ds : List PyData} (h : SmL k ds) (e : k ≤ 400000) : GoodD (.list ds) :=
  ⟨by simp only [PyData.showable, h.sh], by simp only [PyData.depth]; have := h.dp; omega, by simp only [PyData.leavesShort, h.lv], by simp only [PyData.bulk]; exact Nat.le_trans h.bk e⟩
theorem SmL.one {d : PyData} {k : Nat} (h : GoodD d) (e : d.depth ≤ 38) (b : d.bulk + 1 ≤ k) : SmL k [d] :=
  ⟨by simp only [PyData.showableAll, h.sh, Bool.and_self], by simp only [PyData.depthAll]; omega, by simp only [PyData.leavesShortAll, h.lv, Bool.and_self], by simp only [PyData.bulkAll]; omega⟩
theorem SmL.all {ds : List PyData} (h : ∀ d ∈ ds, SmL 100 [d]) : SmL (ds.length * 100) ds := by
  induction ds with
  | nil => exact SmL.nil.le (Nat.zero_le _)
  | cons d ds ih =>
    refine (SmL.cons (h d List.mem_cons_self) (ih fun x hx => h x (List.mem_cons_of_mem _ hx))).le ?_
    rw [List.length_cons, Nat.add_mul, Nat.one_mul]; omega
theorem DpAll.drop {K : PySem.W.Frag} {H : Hp} : ∀ {vs : List V} {ds : List PyData} (i : Nat), DpAll K H vs ds → DpAll K H (vs.drop i) (ds.drop i)
  | _, _, 0, h => h
  | _, _, _ + 1, .nil => .nil
  | _, _, i + 1, .cons _ r => DpAll.drop i r
theorem DpAll.take {K : PySem.W.Frag} {H : Hp} : ∀ {vs : List V} {ds : List PyData} (i : Nat), DpAll K H vs ds → DpAll K H (vs.take i) (ds.take i)
  | _, _, 0, h => by rw [List.take_zero, List.take_zero]; exact .nil
  | _, _, _ + 1, .nil => .nil
  | _, _, i + 1, .cons a r => .cons a (DpAll.take i r)
theorem DpAll.rep {K : PySem.W.Frag} {H : Hp} {vs : List V} {ds : List PyData} (h : DpAll K H vs ds) : ∀ n, DpAll K H (List.replicate n vs).flatten (List.replicate n ds).flatten
  | 0 => .nil
  | n + 1 => by
    rw [List.replicate_succ, List.replicate_succ, List.flatten_cons, List.flatten_cons]
    exact DpAll.app h (DpAll.rep h n)
theorem DpAll.cut {K : PySem.W.Frag} {H : Hp} {vs : List V} {ds : List PyData} (h : DpAll K H vs ds) {k : Nat} (g : SmL k ds) (lo hi : Option Int) : ∃ es, DpAll K H (cutV vs lo hi) es ∧ SmL k es := by
  unfold cutV
  exact ⟨_, DpAll.take _ (DpAll.drop _ h), SmL.take _ (SmL.drop _ g)⟩
/-- a text, again and again -/
theorem repS_list (z : Str) (n : Nat) : (repS z n).cps.toList = (List.replicate n z.cps.toList).flatten := by
  unfold repS
  have : ∀ (l : List (Array Nat)) (acc : Array Nat), (l.foldl (· ++ ·) acc).toList = acc.toList ++ (l.map (·.toList)).flatten := by
    intro l
    induction l with
    | nil => intro acc; simp
    | cons a l ih => intro acc; rw [List.foldl_cons, ih]; simp
  rw [this]
  simp
theorem smL_rep {z : Str} {n : Nat} (h : z.cps.toList.all (fun c => decide (c < 16 ^ 8)) = true) : SmL (n * z.length + 1) [.str (repS z n)] := by
  have e := repS_list z n
  refine ⟨by simp only [PyData.showableAll, PyData.showable, Bool.and_self], by simp only [PyData.depthAll, PyData.depth]; omega, ?_, ?_⟩
  · simp only [PyData.leavesShortAll, PyData.leavesShort, Bool.and_true]
    rw [e, List.all_eq_true]
    intro c hc
    obtain ⟨l, hl, hcl⟩ := List.mem_flatten.mp hc
    rw [List.eq_of_mem_replicate hl] at hcl
    exact List.all_eq_true.mp h c hcl
  · simp only [PyData.bulkAll, PyData.bulk]
    have : (repS z n).cps.size = n * z.length := by
      rw [← Array.length_toList, e, List.length_flatten]
      simp [Str.length]
    omega
/-! ## l != [] -/
end Sg
set_option Elab.async false
set_option linter.all false
set_option maxRecDepth 100000
set_option maxHeartbeats 4000000
namespace Sg
open PySem PySem.Spec PyProof.Rows L2
/-! ## rows of expressions, each of its own making -/
def tE (S : L2.St → Hp → Prop) (R : Hp → V → Prop) : TE := fun σ H Q => S σ H ∧ ∀ H' v, Same H H' → R H' v → Q v H'
def tEs (S : L2.St → Hp → Prop) (R : Hp → V → Prop) (n : Nat) : TA := fun σ H Q => S σ H ∧ ∀ H' vs, Same H H' → (∀ v ∈ vs, R H' v) → vs.length = n → Q vs H'
section
variable {X : Cx} {S : L2.St → Hp → Prop} {R : Hp → V → Prop}
theorem pa_e0 : PA X [] (tEs S R 0) := ⟨fun pos pins s σ H Q I h => pa_nil.run pos pins s σ H Q I (h.2 H [] (same_refl H) (fun v hv => nomatch hv) rfl)⟩
theorem pa_e {e : Expr} {es : List Expr} {n : Nat} (stS : ∀ σ H H', Same H H' → S σ H → S σ H') (stR : ∀ H H' v, Same H H' → R H v → R H' v) (h : PE X e (tE S R)) (g : PA X es (tEs S R n))
    (he : starEach (e :: es) X.env = (false, eval e X.env) :: starEach es X.env := by rfl) : PA X (e :: es) (tEs S R (n + 1)) := by
  refine ⟨fun pos pins s σ H Q I q => (pa_cons h g he).run pos pins s σ H Q I ?_⟩
  refine ⟨q.1, fun H1 v e1 hv => ⟨stS _ _ _ e1 q.1, fun H2 vs e2 hvs hl => q.2 H2 (v :: vs) (e1.trans e2) (fun u hu => ?_) (congrArg (· + 1) hl)⟩⟩
  rcases List.mem_cons.mp hu with z | z
  · rw [z]; exact stR _ _ _ e2 hv
  · exact hvs u z
theorem PE.e {e : Expr} {t : TE} (h : PE X e t) (i : ∀ σ H Q, S σ H → (∀ H' v, Same H H' → R H' v → Q v H') → t σ H Q) : PE X e (tE S R) := PE.imp h fun σ H Q q => i σ H Q q.1 q.2
/-! ## tuples: + and slices, any of them -/
theorem op_catB {K : PySem.W.Frag} (hK : X.K = K) : OpR X (binaryOp .Add) (fun x y H Q => ∃ a b xs ys, x = .ref a ∧ y = .ref b ∧ SqT K H a xs ∧ SqT K H b ys ∧ xs.length + ys.length ≤ sizeLine ∧ ∀ H' c, Same H H' → SqT K H' c (xs ++ ys) → Q (.ref c) H') := by
  subst hK
  intro pins s σ H x y v u Q I rx ry h
  obtain ⟨a, b, xs, ys, rfl, rfl, ha, hb, hz, q⟩ := h
  refine op_catA pins s σ H _ _ v u Q I rx ry ⟨a, b, xs, ys, rfl, rfl, ha, hb, hz, fun e => q H b (same_refl H) (by rw [e]; exact hb), fun _ e => q H a (same_refl H) (by rw [e, List.append_nil]; exact ha), fun _ _ p np => q _ p (same_new np) (.of upd_same)⟩
theorem cutV_whole {xs : List V} {lo hi : Option Int} (h : HT.sIx xs.length 0 lo = 0 ∧ HT.sIx xs.length xs.length hi = xs.length) : cutV xs lo hi = xs := by
  unfold cutV
  rw [h.1, h.2, List.drop_zero, Nat.sub_zero, List.take_length]
theorem sl_tupB {K : PySem.W.Frag} (hK : X.K = K) : SlR X (fun x lo hi H Q => ∃ a xs, x = .ref a ∧ SqT K H a xs ∧ ∀ H' b, Same H H' → SqT K H' b (cutV xs lo hi) → Q (.ref b) H') := by
  subst hK
  intro pins s σ H x v vl vu lo hi sl Q I rx hs pl pu h
  obtain ⟨a, xs, rfl, hx, q⟩ := h
  exact sl_tupA pins s σ H _ v vl vu lo hi sl Q I rx hs pl pu ⟨a, xs, rfl, hx, fun hw => q H a (same_refl H) (by rw [cutV_whole hw]; exact hx), fun _ p np => q _ p (same_new np) (.of upd_same)⟩
end
theorem sq_wo {K : PySem.W.Frag} {H : Hp} {p a : Addr} {ys xs : List V} (hp : H p = some (.lst ys)) (h : SqT K H a xs) : SqT K (wo p H) a xs := by
  rcases h with (h | ⟨o, h⟩) | h
  · exact .inl (.inl (by rw [wo_ne (ne_of h hp fun z => nomatch z)]; exact h))
  · exact .inl (.inr ⟨o, by rw [wo_ne (ne_of h hp fun z => nomatch z)]; exact h⟩)
  · exact .inr h
theorem PenAt.wo {K : PySem.W.Frag} {H : Hp} {p a : Addr} {xs : List V} (hp : PenAt H p) (h : SqT K H a xs) : SqT K (wo p H) a xs := by
  obtain ⟨_, _, _, h1, _⟩ := hp
  exact sq_wo h1 h
/-- all but the lists of H0 -/
def wl (H0 H : Hp) : Hp := fun b => match H0 b with
  | some (.lst _) => none
  | _ => H b
theorem wl_some {H0 H : Hp} {b : Addr} {o : HO} (h : wl H0 H b = some o) : (∀ xs, H0 b ≠ some (.lst xs)) ∧ H b = some o := by
  unfold wl at h
  split at h
  · exact nomatch h
  · rename_i n
    exact ⟨fun xs z => n xs z, h⟩
theorem wl_ne {H0 H : Hp} {b : Addr} (h : ∀ xs, H0 b ≠ some (.lst xs)) : wl H0 H b = H b := by
  unfold wl
  split
  · rename_i xs z
    exact absurd z (h xs)
  · rfl
theorem wl_same {H0 H H' : Hp} (e : Same H H') : Same (wl H0 H) (wl H0 H') := fun b o h => by
  obtain ⟨h1, h2⟩ := wl_some h
  rw [wl_ne h1]; exact e _ _ h2
theorem wl_but {p : Addr} {H0 H H' : Hp} (hp : PenAt H0 p) (e : But p H H') : Same (wl H0 H) (wl H0 H') := fun b o h => by
  obtain ⟨h1, h2⟩ := wl_some h
  obtain ⟨_, _, _, hp, _⟩ := hp
  rw [wl_ne h1]; exact e _ _ (fun z => h1 _ (by rw [z]; exact hp)) h2
theorem nw_wl {H0 H : Hp} : Same (nw H0 H) (wl H0 H) := fun b o h => by
  obtain ⟨h1, h2⟩ := nw_some h
  rw [wl_ne (fun xs z => by rw [h1] at z; exact nomatch z)]; exact h2
theorem wl_wo {H0 H : Hp} {p : Addr} {xs : List V} (hp : H0 p = some (.lst xs)) : Same (wl H0 H) (wo p H) := fun b o h => by
  obtain ⟨h1, h2⟩ := wl_some h
  rw [wo_ne (fun z => h1 _ (by rw [z]; exact hp))]; exact h2
theorem wl_wo2 {H0 H : Hp} {p q : Addr} {xs ys : List V} (hp : H0 p = some (.lst xs)) (hq : H0 q = some (.lst ys)) : Same (wl H0 H) (wo q (wo p H)) := fun b o h => by
  have h1 := wl_wo hp _ _ h
  obtain ⟨h3, _⟩ := wl_some h
  rw [wo_ne (fun z => h3 _ (by rw [z]; exact hq))]; exact h1
theorem PenAt.wl {K : PySem.W.Frag} {H0 H : Hp} {p a : Addr} {xs : List V} (hp : PenAt H p) (e : But p H0 H) (h : SqT K H a xs) : SqT K (wl H0 H) a xs := by
  obtain ⟨_, _, _, hp, _⟩ := hp
  have key : ∀ {o : HO}, H a = some o → (∀ ys, o ≠ .lst ys) → ∀ ys, H0 a ≠ some (.lst ys) := fun {o} h n ys z => by
    by_cases q : a = p
    · rw [q, hp] at h; exact n _ (Option.some.inj h).symm
    · rw [e _ _ q z] at h; exact n _ (Option.some.inj h).symm
  rcases h with (h | ⟨o, h⟩) | h
  · exact .inl (.inl (by rw [wl_ne (key h fun _ z => nomatch z)]; exact h))
  · exact .inl (.inr ⟨o, by rw [wl_ne (key h fun _ z => nomatch z)]; exact h⟩)
  · exact .inr h
/-! ## short data -/
def SmV (K : PySem.W.Frag) (H : Hp) (v : V) : Prop := ∃ d, Dp K H v d ∧ SmL 100 [d]
theorem SmV.same {K : PySem.W.Frag} {H H' : Hp} (e : Same H H') {v : V} (h : SmV K H v) : SmV K H' v := by
  obtain ⟨d, h1, h2⟩ := h
  exact ⟨d, Dp.same e h1, h2⟩
def okS (e : Expr) : Bool := match constE 12 e with
  | some d => smB 100 [d]
  | none => false
theorem okS_star {e : Expr} (h : okS e = true) : ∀ (es : List Expr) (env : Env), starEach (e :: es) env = (false, eval e env) :: starEach es env := by
  intro es env
  cases e with
  | Starred v p => simp [okS, constE] at h
  | _ => rfl
theorem pe_sm {X : Cx} {e : Expr} (h : okS e = true) : PE X e (fun _ H Q => ∀ H' v, Same H H' → SmV X.K (nw H H') v → Q v H') := by
  unfold okS at h
  split at h
  · rename_i d hd
    exact PE.imp (constE_ok 12 e d hd) fun σ H Q q => fun H' v e' hv => q H' v e' ⟨d, hv, smL_by h⟩
  · exact nomatch h
def tSms (K : PySem.W.Frag) (n : Nat) : TA := fun _ H Q => ∀ H' vs, Same H H' → (∀ v ∈ vs, SmV K (nw H H') v) → vs.length = n → Q vs H'
theorem pa_sms {X : Cx} : ∀ (es : List Expr), es.all okS = true → PA X es (tSms X.K es.length)
  | [], _ => ⟨fun pos pins s σ H Q I h => pa_nil.run pos pins s σ H Q I (h H [] (same_refl H) (fun _ z => nomatch z) rfl)⟩
  | e :: es, h => by
    rw [List.all_cons, Bool.and_eq_true] at h
    refine ⟨fun pos pins s σ H Q I q => (pa_cons (pe_sm h.1) (pa_sms es h.2) (okS_star h.1 _ _)).run pos pins s σ H Q I ?_⟩
    refine fun H1 v e1 hv => fun H2 vs e2 hvs hl => q H2 (v :: vs) (e1.trans e2) (fun u hu => ?_) (congrArg (· + 1) hl)
    rcases List.mem_cons.mp hu with z | z
    · rw [z]; exact hv.same (nw_same e2)
    · exact (hvs u z).same (nw_left e1)
theorem pe_smL {X : Cx} {es : List Expr} {p : Pos} {n : Nat} (h : es.all okS = true) (hn : es.length = n) (hs : n ≤ 1000) :
    PE X (.List es p) (fun _ H Q => ∀ H' l vs, Same H H' → H l = none → H' l = some (.lst vs) → (∀ v ∈ vs, SmV X.K (nw H H') v) → vs.length = n → Q (.ref l) H') := by
  refine PE.imp (pe_lst (pa_sms es h)) fun σ H Q q => ?_
  intro H1 vs e1 hvs hl
  have big : 1000 ≤ sizeLine := by rw [sizeLine_eq]; decide
  exact ⟨by omega, fun l nl => q _ l vs (e1.trans (same_new nl)) (same_none e1 nl) upd_same (fun v hv => (hvs v hv).same (nw_same (same_new nl))) (by omega)⟩
end Sg
set_option Elab.async false
set_option linter.all false
set_option maxRecDepth 100000
set_option maxHeartbeats 4000000
namespace Sg
open PySem PySem.Spec PyProof.Rows L2
/-! ## data is kept where only tables change -/
abbrev ExtN := @LamX.ExtN
theorem ext_of {H H' : Hp} (e : Same H H') : LamX.ExtN H H' := fun b o h _ => e b o h
theorem ext_tup {K : PySem.W.Frag} {H H' : Hp} {a : Addr} {xs : List V} (e : LamX.ExtN H H') (h : SqT K H a xs) : SqT K H' a xs := by
  rcases h with (h | ⟨o, h⟩) | h
  · exact .inl (.inl (e _ _ h fun ps z => nomatch z))
  · exact .inl (.inr ⟨o, e _ _ h fun ps z => nomatch z⟩)
  · exact .inr h
theorem ext_lst {K : PySem.W.Frag} {H H' : Hp} {a : Addr} {xs : List V} (e : LamX.ExtN H H') (h : SqL K H a xs) : SqL K H' a xs := by
  rcases h with (h | ⟨o, h⟩) | h
  · exact .inl (.inl (e _ _ h fun ps z => nomatch z))
  · exact .inl (.inr ⟨o, e _ _ h fun ps z => nomatch z⟩)
  · exact .inr h
mutual
theorem Dp.ext {K : PySem.W.Frag} {H H' : Hp} (e : LamX.ExtN H H') : ∀ {v : V} {d : PyData}, Dp K H v d → Dp K H' v d
  | _, _, .non => .non
  | _, _, .bl b => .bl b
  | _, _, .int i => .int i
  | _, _, .str x => .str x
  | _, _, .lst h r => .lst (ext_lst e h) (DpAll.ext e r)
  | _, _, .tup h r => .tup (ext_tup e h) (DpAll.ext e r)
theorem DpAll.ext {K : PySem.W.Frag} {H H' : Hp} (e : LamX.ExtN H H') : ∀ {vs : List V} {ds : List PyData}, DpAll K H vs ds → DpAll K H' vs ds
  | _, _, .nil => .nil
  | _, _, .cons a r => .cons (Dp.ext e a) (DpAll.ext e r)
end
mutual
theorem Tp.ext {K : PySem.W.Frag} {H H' : Hp} (e : LamX.ExtN H H') : ∀ {v : V} {d : PyData}, Tp K H v d → Tp K H' v d
  | _, _, .int i => .int i
  | _, _, .tu h r => .tu (ext_tup e h) (TpAll.ext e r)
theorem TpAll.ext {K : PySem.W.Frag} {H H' : Hp} (e : LamX.ExtN H H') : ∀ {vs : List V} {ds : List PyData}, TpAll K H vs ds → TpAll K H' vs ds
  | _, _, .no => .no
  | _, _, .on a r => .on (Tp.ext e a) (TpAll.ext e r)
end
theorem Aq.ext {K : PySem.W.Frag} {H H' : Hp} (e : LamX.ExtN H H') {v : V} {d : PyData} (h : Aq K H v d) : Aq K H' v d := by
  cases h with
  | data h => exact .data (Dp.ext e h)
  | dic h g =>
    refine .dic (e _ _ h fun ps z => nomatch z) ?_
    cases g with
    | no => exact .no
    | one t => exact .one (Tp.ext e t)
theorem AnyV.ext {K : PySem.W.Frag} {H H' : Hp} (e : LamX.ExtN H H') {v : V} (h : AnyV K H v) : AnyV K H' v := by
  obtain ⟨d, h1, h2⟩ := h
  exact ⟨d, h1.ext e, h2⟩
theorem ext_wo {p : Addr} {H H' : Hp} (e : LamX.ExtN H H') : LamX.ExtN (wo p H) (wo p H') := fun b o h n => by
  obtain ⟨h1, h2⟩ := wo_some h
  rw [wo_ne h1]; exact e _ _ h2 n
theorem PenAt.ext {H H' : Hp} {p : Addr} (e : LamX.ExtN H H') (h : PenAt H p) : PenAt H' p := by
  obtain ⟨a, b, c, h1, h2⟩ := h
  exact ⟨a, b, c, e _ _ h1 (fun ps z => nomatch z), h2⟩
theorem FrzT.ext {H H' : Hp} (e : LamX.ExtN H H') {a : Addr} {xs : List V} (h : FrzT H a xs) : FrzT H' a xs := by
  obtain ⟨ob, h1, h2⟩ := h
  exact ⟨ob, e _ _ h1 (fun ps z => nomatch z), h2⟩
theorem ext_free {H H' : Hp} {b : Addr} (e : LamX.ExtN H H') (h : H' b = none) {o : HO} (g : H b = some o) : ∃ ps, o = .tbl ps := by
  by_cases z : ∀ ps, o ≠ .tbl ps
  · rw [e _ _ g z] at h; exact nomatch h
  · exact Classical.not_forall_not.mp fun q => z fun ps y => q ps y
theorem tabs_but {T : List (Addr × Str)} {p : Addr} {H H' : Hp} (hp : PenAt H p) (e : But p H H') (t : LamX.Tabs T H) : LamX.Tabs T H' := fun x hx => by
  obtain ⟨_, _, _, hp, _⟩ := hp
  obtain ⟨ps, h1, h2, h3⟩ := t x hx
  refine ⟨ps, e _ _ (ne_of h1 hp fun z => nomatch z) h1, h2, fun pos cv hc => ?_⟩
  obtain ⟨c, e1, e2⟩ := h3 pos cv hc
  exact ⟨c, e1, e _ _ (ne_of e2 hp fun z => by unfold LamX.CodeO at z; exact nomatch z) e2⟩
theorem tabs_same {T : List (Addr × Str)} {H H' : Hp} (e : Same H H') (t : LamX.Tabs T H) : LamX.Tabs T H' := t.ext e
/-! ## the code object of a def that makes lambdas -/
theorem tab_code {K : PySem.W.Frag} {x : Str} {f c P : Addr} {fd : FuncData} {oc : Value} {od : Option Addr} {sl : Array (Option Value)} (h1 : PySem.W.nsIn K mainGlobals x = some (some (.ref f)))
    (h2 : K.lookup f = some ⟨oc, od, .func fd, sl⟩) (h3 : PySem.W.tabIn K x = some (c, P)) : fd.code = .ref c := by
  unfold PySem.W.tabIn at h3
  rw [h1] at h3
  simp only [h2] at h3
  split at h3
  · split at h3
    · split at h3
      · have := Option.some.inj h3
        rw [Prod.mk.injEq] at this
        rw [‹fd.code = _›, this.1]
      · exact nomatch h3
    · exact nomatch h3
  · exact nomatch h3
section
variable {P : Program} {w : World} {K : PySem.W.Frag} {mg : Str → Option Value} {base : Heap} {k : Nat} {f : Addr}
variable {fd : FuncData} {ps : List Str} {sp : Sp}
theorem fnG_mkC {x qual : Str} {st : Stmt} {N : List Str} {c : Addr} (F : Fun K x qual st f fd) (hc : fd.code = .ref c)
    (S : FnScope N ps (defScope st)) (arity : ∀ vs H Q, sp vs H Q E0 → vs.length = ps.length)
    (hbody : ∀ (A : Around) (outer : List Env) (s : Shared) (H : Hp) (vs : List V) (Q : VK),
      (A.deeper (envOfC qual (defScope st) s.heap.objs.size f (.ref c))).guards = some [] →
      Room k (A.deeper (envOfC qual (defScope st) s.heap.objs.size f (.ref c))) → sp vs H Q E0 →
      ∃ t, PSs (cxOf CX0 P w K mg base N qual (defScope st) f (.ref c) A outer s H E0).nox (defBody st) t ∧
        t { nx := fun _ H' => Q .non H', rt := Q } (start N vs) H) :
    FnG P w K mg base (k + 1) f fd ps sp := by
  obtain ⟨oc, od, kV, doc, pm, an, cdv, ct, osl, rfl, lk, hcd⟩ := F.ex
  obtain rfl : cdv = .ref c := hc
  refine ⟨arity, ?_⟩
  intro A outer s H args us vs Q hg hr e0 hb r hsp
  have hl := arity _ _ _ hsp
  have hk0 : ∀ b o, base.get? b = some o → s.heap.get? b = some o := fun b o e => (e0.bs b o e).1
  have KX : K.In s.heap := e0.mod.kin.keeps hk0
  have lim : s.heap.NoLimit := e0.mod.nolimit.keeps hk0
  refine codeAny_call_function hr.depth (KX _ _ lk) rfl S.co S.gen rfl (PySem.W.codeRec_of KX hcd) ?_
  refine hb _ _ _ _ (wpAny_newFunctionEnv_cells S.kind ?_ ?_)
  · rintro ⟨n, v⟩ hy
    have hn := S.par n (List.of_mem_zip hy).1
    cases hn with
    | inl q => exact .inl q
    | inr q => exact .inr ⟨q, PySem.W.cellsFrom_some _ _ _ (.inl q)⟩
  · intro env he s1 x
    subst he
    refine ⟨lim.keeps x.toInCall.keep, ?_⟩
    apply codeAny_func
    obtain ⟨t, ht, hq⟩ := hbody A outer s H vs Q hg (hr.deeper _) hsp
    have ht' := ht.nox
    have I := inv_start (CX := CX0) (E := E0) (cd := .ref c) (qual := qual) (f := f) S hr.hd e0 hl r x
    refine wpAny_mono (ht'.run [] s1 (start N vs) H _ I hq) ?_ (fun e s' hs => hs)
    intro fl s' hs
    cases fl with
    | ret u =>
      obtain ⟨v, σ', H', J, rv, q⟩ := hs
      exact ⟨v, H', J.os, J.bare, J.base, J.hok, rv, q⟩
    | next =>
      obtain ⟨σ', H', J, q⟩ := hs
      exact ⟨V.non, H', J.os, J.bare, J.base, J.hok, rfl, q⟩
    | brk => obtain ⟨_, _, _, q⟩ := hs; exact q.elim
    | cont => obtain ⟨_, _, _, q⟩ := hs; exact q.elim
end
end Sg
set_option Elab.async false
set_option linter.all false
set_option maxRecDepth 100000
set_option maxHeartbeats 4000000
namespace Sg
open PySem PySem.Spec PyProof.Rows L2
section
variable {K : PySem.W.Frag} {D C : Addr}
theorem kit_no (h0 : PySem.W.subIn K (.ref D) (.ref D) = some true) (i : PySem.W.isClsIn K C = true) (t : PySem.W.typeIn K (.ref C) = some (.type "type")) (s : PySem.W.subIn K (.ref D) (.ref C) = some false) : PySem.W.kitOne K (.ref D) (.ref C) = some false := by
  have ne : ¬ ((Value.ref D == Value.ref C) = true) := fun z => by
    have e : Value.ref D = Value.ref C := by simpa using z
    rw [← e, h0] at s
    exact nomatch s
  unfold PySem.W.kitOne
  rw [if_neg ne]
  have i' : (PySem.W.clsIn K C).isSome = true := i
  show (if ((PySem.W.clsIn K C).isSome && PySem.W.typeIn K (.ref C) == some (.type "type")) = true then PySem.W.subIn K (.ref D) (.ref C) else none) = some false
  rw [i', t]
  exact s
theorem kit_self : PySem.W.kitOne K (.ref D) (.ref D) = some true := by unfold PySem.W.kitOne; simp
theorem kit_val (s : PySem.W.subIn K (.ref D) (.type "ValueError") = some true) : PySem.W.kitOne K (.ref D) (.type "ValueError") = some true := by
  unfold PySem.W.kitOne
  rw [if_neg (by simp)]
  show (if PySem.W.kitMeta "ValueError" = true then PySem.W.subIn K (.ref D) (.type "ValueError") else none) = some true
  rw [if_pos (by decide +kernel)]
  exact s
theorem exm_sub (h1 : PySem.W.subIn K (.ref C) (.type "BaseException") = some true) (h2 : PySem.W.isClsIn K C = true) (h3 : PySem.W.typeIn K (.ref C) = some (.type "type")) (h4 : PySem.W.subIn K (.ref D) (.ref C) = some true) :
    PySem.W.exmOne K (.ref D) (.ref C) = some true := by
  have e1 : (PySem.W.subIn K (.ref C) (.type "BaseException") == some true) = true := by rw [h1] <;> rfl
  have h2' : (PySem.W.clsIn K C).isSome = true := h2
  have e2 : ((PySem.W.clsIn K C).isSome && PySem.W.typeIn K (.ref C) == some (.type "type")) = true := by rw [h2', h3] <;> rfl
  show (if (PySem.W.subIn K (.ref C) (.type "BaseException") == some true) = true then (if ((PySem.W.clsIn K C).isSome && PySem.W.typeIn K (.ref C) == some (.type "type")) = true then PySem.W.subIn K (.ref D) (.ref C) else none) else none) = some true
  rw [if_pos e1, if_pos e2]
  exact h4
end
end Sg
set_option Elab.async false
set_option linter.all false
set_option maxRecDepth 100000
set_option maxHeartbeats 4000000
namespace Sg
open PySem PySem.Spec PyProof.Rows L2
/-! ## short data, a dict at most on top -/
def AnyS (K : PySem.W.Frag) (H : Hp) (v : V) : Prop := ∃ d, Aq K H v d ∧ GoodD d ∧ d.bulk ≤ 900
theorem AnyS.same {K : PySem.W.Frag} {H H' : Hp} (e : Same H H') {v : V} (h : AnyS K H v) : AnyS K H' v := by
  obtain ⟨d, h1, h2⟩ := h
  exact ⟨d, h1.same e, h2⟩
theorem AnyS.ext {K : PySem.W.Frag} {H H' : Hp} (e : LamX.ExtN H H') {v : V} (h : AnyS K H v) : AnyS K H' v := by
  obtain ⟨d, h1, h2⟩ := h
  exact ⟨d, h1.ext e, h2⟩
theorem AnyS.any {K : PySem.W.Frag} {H : Hp} {v : V} (h : AnyS K H v) : AnyV K H v := by
  obtain ⟨d, h1, h2, _⟩ := h
  exact ⟨d, h1, h2⟩
def AllS (K : PySem.W.Frag) (H : Hp) (vs : List V) : Prop := ∀ v ∈ vs, AnyS K H v
theorem AllS.same {K : PySem.W.Frag} {H H' : Hp} (e : Same H H') {vs : List V} (h : AllS K H vs) : AllS K H' vs := fun v hv => (h v hv).same e
theorem AllS.app {K : PySem.W.Frag} {H : Hp} {vs us : List V} (h : AllS K H vs) (g : AllS K H us) : AllS K H (vs ++ us) := fun v hv => (List.mem_append.mp hv).elim (h v) (g v)
def tAnyS (K : PySem.W.Frag) : TE := fun _ H Q => ∀ H' v, Same H H' → AnyS K (nw H H') v → Q v H'
def tAllS (K : PySem.W.Frag) (n : Nat) : TA := fun _ H Q => ∀ H' vs, Same H H' → AllS K (nw H H') vs → vs.length = n → Q vs H'
def okT (e : Expr) : Bool := match constD 12 e with
  | some d => goodB d && decide (d.bulk ≤ 900)
  | none => false
theorem okT_star {e : Expr} (h : okT e = true) : ∀ (es : List Expr) (env : Env), starEach (e :: es) env = (false, eval e env) :: starEach es env := by
  intro es env
  cases e with
  | Starred v p => simp [okT, constD, constE] at h
  | _ => rfl
theorem pe_anyS {X : Cx} {e : Expr} (h : okT e = true) : PE X e (tAnyS X.K) := by
  unfold okT at h
  split at h
  · rename_i d hd
    rw [Bool.and_eq_true, decide_eq_true_eq] at h
    have hg := good_by h.1
    have hb := h.2
    unfold constD at hd
    split at hd
    · cases hd
      refine PE.imp pe_dnewK fun σ H Q q => ?_
      exact fun p np => q _ _ (same_new np) ⟨_, .dic ((nw_none np).trans upd_same) .no, hg, hb⟩
    · rename_i ki j1 p1 vi j2 p2 p3
      cases hd
      refine PE.imp (pe_disp (pps_cons pe_int pe_int pps_nil) rfl rfl (fun z => nomatch z) (by show 1 ≤ 15; decide)) fun σ H Q q => ?_
      intro p np
      refine ⟨upd_same, [(.inl ki, .int vi)], rfl, by show 1 ≤ 15; decide, ?_⟩
      have e2 : Same H (L2.upd (L2.upd H p (.dK [])) p (.dK (mergeK [] [(.inl ki, .int vi)]))) := fun b o z => by
        rw [upd_ne (ne_of_none z np), upd_ne (ne_of_none z np)]; exact z
      exact q _ _ e2 ⟨_, .dic ((nw_none np).trans upd_same) (.one (.int _)), hg, hb⟩
    · exact PE.imp (constE_ok 12 e d hd) fun σ H Q q => fun H' v e' hv => q H' v e' ⟨d, .data hv, hg, hb⟩
  · exact nomatch h
theorem pa_allS {X : Cx} : ∀ (es : List Expr), es.all okT = true → PA X es (tAllS X.K es.length)
  | [], _ => ⟨fun pos pins s σ H Q I h => pa_nil.run pos pins s σ H Q I (h H [] (same_refl H) (fun _ z => nomatch z) rfl)⟩
  | e :: es, h => by
    rw [List.all_cons, Bool.and_eq_true] at h
    refine ⟨fun pos pins s σ H Q I q => (pa_cons (pe_anyS h.1) (pa_allS es h.2) (okT_star h.1 _ _)).run pos pins s σ H Q I ?_⟩
    refine fun H1 v e1 hv => fun H2 vs e2 hvs hl => q H2 (v :: vs) (e1.trans e2) (fun u hu => ?_) (congrArg (· + 1) hl)
    rcases List.mem_cons.mp hu with z | z
    · rw [z]; exact hv.same (nw_same e2)
    · exact (hvs u z).same (nw_left e1)
theorem pe_anySL {X : Cx} {es : List Expr} {p : Pos} {n : Nat} (h : es.all okT = true) (hn : es.length = n) (hs : n ≤ 1000) :
    PE X (.List es p) (fun _ H Q => ∀ H' l vs, Same H H' → H l = none → H' l = some (.lst vs) → AllS X.K (nw H H') vs → vs.length = n → Q (.ref l) H') := by
  refine PE.imp (pe_lst (pa_allS es h)) fun σ H Q q => ?_
  intro H1 vs e1 hvs hl
  have big : 1000 ≤ sizeLine := by rw [sizeLine_eq]; decide
  exact ⟨by omega, fun l nl => q _ l vs (e1.trans (same_new nl)) (same_none e1 nl) upd_same (hvs.same (nw_same (same_new nl))) (by omega)⟩
/-! ## what is no instance of an own class -/
def PlainV (K : PySem.W.Frag) (H : Hp) (v : V) : Prop := ∃ d : PyData, TyX K H v (.type (tyN d))
theorem AnyV.plain {K : PySem.W.Frag} {H : Hp} {v : V} (h : AnyV K H v) : PlainV K H v := by
  obtain ⟨d, h1, _⟩ := h
  exact ⟨d, aq_ty h1⟩
theorem call_isiP {X : Cx} {K : PySem.W.Frag} {C : Addr} (hK : X.K = K) (hC : NoInst K C) : CallR X (.builtin "isinstance") (fun xs H Q => ∃ v, xs = [v, .ref C] ∧ PlainV K H v ∧ Q (.bl false) H) := by
  subst hK
  intro pins s σ H xs us Q I r h
  obtain ⟨v, rfl, ⟨d, hd⟩, q⟩ := h
  exact call_isi pins s σ H _ us Q I r ⟨v, .ref C, _, _, _, rfl, .own C, hd, hC d, q⟩
/-! ## laps, worths: of any data -/
theorem bulk_len : ∀ ds : List PyData, ds.length ≤ PyData.bulkAll ds
  | [] => Nat.le_refl _
  | d :: ds => by
    simp only [PyData.bulkAll, List.length_cons]
    have := bulk_len ds
    omega
theorem tup_short {ds : List PyData} (h : (PyData.tuple ds).bulk ≤ 900) : ds.length ≤ 900 := by
  simp only [PyData.bulk] at h
  exact Nat.le_trans (bulk_len ds) h
end Sg
set_option Elab.async false
set_option linter.all false
set_option maxRecDepth 100000
set_option maxHeartbeats 4000000
namespace Sg
open PySem PySem.Spec PyProof.Rows L2
section
variable {X : Cx}
/-- l == [] -/
theorem op_eqNil (hu : X.A.units < cLine) : OpR X (compareOp .Eq) (fun x y H Q => ∃ a b xs, x = .ref a ∧ y = .ref b ∧ SqL X.K H a xs ∧ SqL X.K H b [] ∧ Q (.bl xs.isEmpty) H) := by
  intro pins s σ H x y v u Q I rx ry h
  obtain ⟨a, b, xs, rfl, rfl, h1, h2, q⟩ := h
  cases rx
  cases ry
  obtain ⟨its, rv, pl, hz⟩ := I.list h1
  obtain ⟨its2, rv2, pl2, hz2⟩ := I.list h2
  obtain rfl : its2 = [] := by cases rv2; rfl
  cases xs with
  | nil =>
    obtain rfl : its = [] := by cases rv; rfl
    exact SeqAt.RcAt.lists (e := fun _ => true) pl.isList pl2.isList rfl hu (fun j h1 _ => absurd h1 (by simp)) _ _ _ _ ⟨.bl _, H, I, rfl, q⟩
  | cons x xs =>
    obtain ⟨y, its', rfl⟩ : ∃ y its', its = y :: its' := by cases rv with | cons a b => exact ⟨_, _, rfl⟩
    exact SeqAt.RcAt.lists_lengths pl.isList pl2.isList (by simp) hu _ _ _ _ ⟨.bl _, H, I, rfl, q⟩
/-- t == () -/
theorem op_eqTNil {K : PySem.W.Frag} (hK : X.K = K) (hu : X.A.units < cLine) : OpR X (compareOp .Eq) (fun x y H Q => ∃ a b xs, x = .ref a ∧ y = .ref b ∧ SqT K H a xs ∧ SqT K H b [] ∧ Q (.bl xs.isEmpty) H) := by
  subst hK
  intro pins s σ H x y v u Q I rx ry h
  obtain ⟨a, b, xs, rfl, rfl, h1, h2, q⟩ := h
  cases rx
  cases ry
  obtain ⟨its, rv, pl, hz⟩ := I.tuple h1
  obtain ⟨its2, rv2, pl2, hz2⟩ := I.tuple h2
  obtain rfl : its2 = [] := by cases rv2; rfl
  refine SeqAt.RcAt.tuples (e := fun _ => true) pl pl2 hu (fun j _ h2 => absurd h2 (by simp)) _ _ _ _ ⟨.bl xs.isEmpty, H, I, ?_, q⟩
  cases rv with
  | nil => rfl
  | cons a b => rfl
end
end Sg
set_option Elab.async false
set_option linter.all false
set_option maxRecDepth 100000
set_option maxHeartbeats 4000000
namespace Sg
open PySem PySem.Spec PyProof.Rows L2
/-! the places of the text -/
def topS (i : Nat) : Stmt := PySem.Challenge.pw_startgaps_k13_laps_refuse.main.body.getD i (.Pass ⟨0, 0, 0, 0⟩)
abbrev s_is_int : Stmt := topS 33
theorem sc_is_int : FnScope ["thing"] ["thing"] (defScope s_is_int) := ⟨rfl, rfl, rfl, by decide +kernel, rfl, by decide +kernel, by decide +kernel⟩
abbrev s_is_between : Stmt := topS 34
theorem sc_is_between : FnScope ["thing", "least", "most"] ["thing", "least", "most"] (defScope s_is_between) := ⟨rfl, rfl, rfl, by decide +kernel, rfl, by decide +kernel, by decide +kernel⟩
abbrev s_fraction : Stmt := topS 35
theorem sc_fraction : FnScope ["top", "bottom", "shared"] ["top", "bottom"] (defScope s_fraction) := ⟨rfl, rfl, rfl, by decide +kernel, rfl, by decide +kernel, by decide +kernel⟩
abbrev s_is_work : Stmt := topS 40
theorem sc_is_work : FnScope ["thing", "item"] ["thing"] (defScope s_is_work) := ⟨rfl, rfl, rfl, by decide +kernel, rfl, by decide +kernel, by decide +kernel⟩
abbrev s_bars : Stmt := topS 41
theorem sc_bars : FnScope ["one", "other", "distance"] ["one", "other"] (defScope s_bars) := ⟨rfl, rfl, rfl, by decide +kernel, rfl, by decide +kernel, by decide +kernel⟩
abbrev s_require_work : Stmt := topS 42
theorem sc_require_work : FnScope ["thing"] ["thing"] (defScope s_require_work) := ⟨rfl, rfl, rfl, by decide +kernel, rfl, by decide +kernel, by decide +kernel⟩
abbrev s_clashes_behind : Stmt := topS 43
theorem sc_clashes_behind : FnScope ["one", "other", "distance", "here", "there"] ["one", "other", "distance"] (defScope s_clashes_behind) := ⟨rfl, rfl, rfl, by decide +kernel, rfl, by decide +kernel, by decide +kernel⟩
abbrev s_is_kind : Stmt := topS 46
theorem sc_is_kind : FnScope ["line", "thing"] ["line", "thing"] (defScope s_is_kind) := ⟨rfl, rfl, rfl, by decide +kernel, rfl, by decide +kernel, by decide +kernel⟩
abbrev s_require_kind : Stmt := topS 47
theorem sc_require_kind : FnScope ["line", "thing"] ["line", "thing"] (defScope s_require_kind) := ⟨rfl, rfl, rfl, by decide +kernel, rfl, by decide +kernel, by decide +kernel⟩
abbrev s_bars_of_all : Stmt := topS 48
theorem sc_bars_of_all : FnScope ["works", "other", "one"] ["works"] (defScope s_bars_of_all) := ⟨rfl, rfl, rfl, by decide +kernel, rfl, by decide +kernel, by decide +kernel⟩
abbrev s_Line_init : Stmt := inClass (topS 49) 0
theorem sc_Line_init : FnScope ["self", "works", "work", "row", "pair", "bar"] ["self", "works"] (defScope s_Line_init) := ⟨rfl, rfl, rfl, by decide +kernel, rfl, by decide +kernel, by decide +kernel⟩
abbrev s_Line_works : Stmt := inClass (topS 49) 1
theorem sc_Line_works : FnScope ["self"] ["self"] (defScope s_Line_works) := ⟨rfl, rfl, rfl, by decide +kernel, rfl, by decide +kernel, by decide +kernel⟩
abbrev s_Line_len : Stmt := inClass (topS 49) 3
theorem sc_Line_len : FnScope ["self"] ["self"] (defScope s_Line_len) := ⟨rfl, rfl, rfl, by decide +kernel, rfl, by decide +kernel, by decide +kernel⟩
abbrev s_Line_getitem : Stmt := inClass (topS 49) 4
theorem sc_Line_getitem : FnScope ["self", "at"] ["self", "at"] (defScope s_Line_getitem) := ⟨rfl, rfl, rfl, by decide +kernel, rfl, by decide +kernel, by decide +kernel⟩
abbrev s_Line_call : Stmt := inClass (topS 49) 6
theorem sc_Line_call : FnScope ["self", "one", "other"] ["self", "one", "other"] (defScope s_Line_call) := ⟨rfl, rfl, rfl, by decide +kernel, rfl, by decide +kernel, by decide +kernel⟩
abbrev s_Line_add : Stmt := inClass (topS 49) 7
theorem sc_Line_add : FnScope ["self", "other", "works"] ["self", "other"] (defScope s_Line_add) := ⟨rfl, rfl, rfl, by decide +kernel, rfl, by decide +kernel, by decide +kernel⟩
abbrev s_Line_sub : Stmt := inClass (topS 49) 9
theorem sc_Line_sub : FnScope ["self", "other", "works"] ["self", "other"] (defScope s_Line_sub) := ⟨rfl, rfl, rfl, by decide +kernel, rfl, by decide +kernel, by decide +kernel⟩
abbrev s_Line_neg : Stmt := inClass (topS 49) 10
theorem sc_Line_neg : FnScope ["self", "works", "work"] ["self"] (defScope s_Line_neg) := ⟨rfl, rfl, rfl, by decide +kernel, rfl, by decide +kernel, by decide +kernel⟩
abbrev s_Line_eq : Stmt := inClass (topS 49) 11
theorem sc_Line_eq : FnScope ["self", "other"] ["self", "other"] (defScope s_Line_eq) := ⟨rfl, rfl, rfl, by decide +kernel, rfl, by decide +kernel, by decide +kernel⟩
abbrev s_Line_repr : Stmt := inClass (topS 49) 12
theorem sc_Line_repr : FnScope ["self"] ["self"] (defScope s_Line_repr) := ⟨rfl, rfl, rfl, by decide +kernel, rfl, by decide +kernel, by decide +kernel⟩
abbrev s_require_line : Stmt := topS 50
theorem sc_require_line : FnScope ["thing"] ["thing"] (defScope s_require_line) := ⟨rfl, rfl, rfl, by decide +kernel, rfl, by decide +kernel, by decide +kernel⟩
abbrev s_fits : Stmt := topS 54
theorem sc_fits : FnScope ["line", "lap", "tick"] ["line", "lap"] (defScope s_fits) := ⟨rfl, rfl, rfl, by decide +kernel, rfl, by decide +kernel, by decide +kernel⟩
abbrev s_mean : Stmt := topS 55
theorem sc_mean : FnScope ["line", "lap", "worths", "choice"] ["line", "lap", "worths"] (defScope s_mean) := ⟨rfl, rfl, rfl, by decide +kernel, rfl, by decide +kernel, by decide +kernel⟩
abbrev s_is_lap : Stmt := topS 56
theorem sc_is_lap : FnScope ["line", "thing", "item"] ["line", "thing"] (defScope s_is_lap) := ⟨rfl, rfl, rfl, by decide +kernel, rfl, by decide +kernel, by decide +kernel⟩
abbrev s_worth_of : Stmt := topS 57
theorem sc_worth_of : FnScope ["worths", "choice"] ["worths", "choice"] (defScope s_worth_of) := ⟨rfl, rfl, rfl, by decide +kernel, rfl, by decide +kernel, by decide +kernel⟩
abbrev s_require_lap : Stmt := topS 58
theorem sc_require_lap : FnScope ["line", "thing"] ["line", "thing"] (defScope s_require_lap) := ⟨rfl, rfl, rfl, by decide +kernel, rfl, by decide +kernel, by decide +kernel⟩
abbrev s_require_worths : Stmt := topS 59
theorem sc_require_worths : FnScope ["line", "thing"] ["line", "thing"] (defScope s_require_worths) := ⟨rfl, rfl, rfl, by decide +kernel, rfl, by decide +kernel, by decide +kernel⟩
abbrev s_is_worths : Stmt := topS 60
theorem sc_is_worths : FnScope ["line", "thing", "worth"] ["line", "thing"] (defScope s_is_worths) := ⟨rfl, rfl, rfl, by decide +kernel, rfl, by decide +kernel, by decide +kernel⟩
abbrev s_clashes : Stmt := topS 61
theorem sc_clashes : FnScope ["line", "lap", "tick", "kind", "other", "bar"] ["line", "lap", "tick"] (defScope s_clashes) := ⟨rfl, rfl, rfl, by decide +kernel, rfl, by decide +kernel, by decide +kernel⟩
abbrev s_l_cell : Stmt := topS 63
theorem sc_l_cell : FnScope ["_law_script", "_law_k"] ["_law_script", "_law_k"] (defScope s_l_cell) := ⟨rfl, rfl, rfl, by decide +kernel, rfl, by decide +kernel, by decide +kernel⟩
abbrev s_l_pen : Stmt := topS 64
theorem sc_l_pen : FnScope ["_law_cell_here"] ["_law_cell_here"] (defScope s_l_pen) := ⟨rfl, rfl, rfl, by decide +kernel, rfl, by decide +kernel, by decide +kernel⟩
abbrev s_l_draw : Stmt := topS 65
theorem sc_l_draw : FnScope ["_law_pen_here", "_law_many", "_law_found", "_law_stirred"] ["_law_pen_here", "_law_many"] (defScope s_l_draw) := ⟨rfl, rfl, rfl, by decide +kernel, rfl, by decide +kernel, by decide +kernel⟩
abbrev s_l_pick : Stmt := topS 66
theorem sc_l_pick : FnScope ["_law_pen_here", "_law_some"] ["_law_pen_here", "_law_some"] (defScope s_l_pick) := ⟨rfl, rfl, rfl, by decide +kernel, rfl, by decide +kernel, by decide +kernel⟩
abbrev s_l_is_whole : Stmt := topS 67
theorem sc_l_is_whole : FnScope ["_law_thing", "_law_low_here", "_law_high"] ["_law_thing", "_law_low_here", "_law_high"] (defScope s_l_is_whole) := ⟨rfl, rfl, rfl, by decide +kernel, rfl, by decide +kernel, by decide +kernel⟩
abbrev s_l_work : Stmt := topS 68
theorem sc_l_work : FnScope ["_law_pen_here", "_law_most", "_law_stations", "_law_way", "_law_long", "_law_items", "_law_turn"] ["_law_pen_here", "_law_most", "_law_stations"] (defScope s_l_work) := ⟨rfl, rfl, rfl, by decide +kernel, rfl, by decide +kernel, by decide +kernel⟩
abbrev s_l_made : Stmt := topS 69
theorem sc_l_made : FnScope ["_law_works_here"] ["_law_works_here"] (defScope s_l_made) := ⟨rfl, rfl, rfl, by decide +kernel, rfl, by decide +kernel, by decide +kernel⟩
abbrev s_l_works : Stmt := topS 70
theorem sc_l_works : FnScope ["_law_pen_here", "_law_many", "_law_stations", "_law_turn"] ["_law_pen_here"] (defScope s_l_works) := ⟨rfl, rfl, rfl, by decide +kernel, rfl, by decide +kernel, by decide +kernel⟩
abbrev s_l_low : Stmt := topS 71
theorem sc_l_low : FnScope ["_law_top", "_law_bottom", "_law_one", "_law_other"] ["_law_top", "_law_bottom"] (defScope s_l_low) := ⟨rfl, rfl, rfl, by decide +kernel, rfl, by decide +kernel, by decide +kernel⟩
abbrev s_l_mean : Stmt := topS 72
theorem sc_l_mean : FnScope ["_law_lap_here", "_law_worths_here", "_law_one"] ["_law_lap_here", "_law_worths_here"] (defScope s_l_mean) := ⟨rfl, rfl, rfl, by decide +kernel, rfl, by decide +kernel, by decide +kernel⟩
abbrev s_l_lap : Stmt := topS 73
theorem sc_l_lap : FnScope ["_law_pen_here", "_law_many", "_law_most", "_law_share", "_law_some", "_law_turn"] ["_law_pen_here", "_law_many", "_law_most"] (defScope s_l_lap) := ⟨rfl, rfl, rfl, by decide +kernel, rfl, by decide +kernel, by decide +kernel⟩
abbrev s_l_worths : Stmt := topS 74
theorem sc_l_worths : FnScope ["_law_pen_here", "_law_many", "_law_some", "_law_turn"] ["_law_pen_here", "_law_many"] (defScope s_l_worths) := ⟨rfl, rfl, rfl, by decide +kernel, rfl, by decide +kernel, by decide +kernel⟩
abbrev s_l_is_lap : Stmt := topS 75
theorem sc_l_is_lap : FnScope ["_law_works_here", "_law_thing", "_law_one"] ["_law_works_here", "_law_thing"] (defScope s_l_is_lap) := ⟨rfl, rfl, rfl, by decide +kernel, rfl, by decide +kernel, by decide +kernel⟩
abbrev s_l_odds : Stmt := topS 76
theorem sc_l_odds : FnScope ["_law_found"] [] (defScope s_l_odds) := ⟨rfl, rfl, rfl, by decide +kernel, rfl, by decide +kernel, by decide +kernel⟩
abbrev s_l_great : Stmt := topS 77
theorem sc_l_great : FnScope ["_law_deep", "_law_turn"] [] (defScope s_l_great) := ⟨rfl, rfl, rfl, by decide +kernel, rfl, by decide +kernel, by decide +kernel⟩
abbrev s_l_bend : Stmt := topS 78
theorem sc_l_bend : FnScope ["_law_pen_here", "_law_row", "_law_one", "_law_spot", "_law_found", "_law_other"] ["_law_pen_here", "_law_row"] (defScope s_l_bend) := ⟨rfl, rfl, rfl, by decide +kernel, rfl, by decide +kernel, by decide +kernel⟩
abbrev s_l_kind : Stmt := topS 79
theorem sc_l_kind : FnScope ["_law_e", "_law_marks", "_law_words"] ["_law_e"] (defScope s_l_kind) := ⟨rfl, rfl, rfl, by decide +kernel, rfl, by decide +kernel, by decide +kernel⟩
abbrev s_l_said : Stmt := topS 80
theorem sc_l_said : FnScope ["_law_call", "_law_e", "_law_word"] ["_law_call"] (defScope s_l_said) := ⟨rfl, rfl, rfl, by decide +kernel, rfl, by decide +kernel, by decide +kernel⟩
abbrev s_l_are_worths : Stmt := topS 81
theorem sc_l_are_worths : FnScope ["_law_works_here", "_law_thing", "_law_one"] ["_law_works_here", "_law_thing"] (defScope s_l_are_worths) := ⟨rfl, rfl, rfl, by decide +kernel, rfl, by decide +kernel, by decide +kernel⟩
abbrev s_l_line_refused : Stmt := topS 82
theorem sc_l_line_refused : FnScope ["_law_bad", "_law_words"] ["_law_bad"] (defScope s_l_line_refused) := ⟨rfl, rfl, rfl, by decide +kernel, rfl, by decide +kernel, by decide +kernel⟩
abbrev s_l_lap_right : Stmt := topS 83
theorem sc_l_lap_right : FnScope ["_law_made_here", "_law_works_here", "_law_worths_here", "_law_thing", "_law_kept", "_law_words"] ["_law_made_here", "_law_works_here", "_law_worths_here", "_law_thing"] (defScope s_l_lap_right) := ⟨rfl, rfl, rfl, by decide +kernel, rfl, by decide +kernel, by decide +kernel⟩
abbrev s_l_worths_right : Stmt := topS 84
theorem sc_l_worths_right : FnScope ["_law_made_here", "_law_works_here", "_law_lap_here", "_law_thing", "_law_kept", "_law_word", "_law_due"] ["_law_made_here", "_law_works_here", "_law_lap_here", "_law_thing"] (defScope s_l_worths_right) := ⟨rfl, rfl, rfl, by decide +kernel, rfl, by decide +kernel, by decide +kernel⟩
abbrev s_law : Stmt := topS 85
theorem sc_law : FnScope ["_law_script", "_law_cell_here", "_law_pen_here", "_law_works_here", "_law_made_here", "_law_lap_here", "_law_worths_here", "_law_things", "_law_turn", "_law_thing"] ["_law_script"] (defScope s_law) := ⟨rfl, rfl, rfl, by decide +kernel, rfl, by decide +kernel, by decide +kernel⟩
end Sg
set_option Elab.async false
set_option linter.all false
set_option maxRecDepth 100000
set_option maxHeartbeats 4000000
namespace Sg
open PySem PySem.Spec PyProof.Rows L2 StX
section
variable {P : Program} {w : World} {K : PySem.W.Frag} {mg : Str → Option Value} {base : Heap}
def spIsInt : Sp := fun vs H Q _ => ∃ i : Int, vs = [.int i] ∧ Q (.bl true) H
theorem ok_is_int {f : Addr} {fd : FuncData} {k : Nat} (F : Fun K "is_int" "is_int" s_is_int f fd) (m1 : mg "isinstance" = none) (m2 : mg "int" = none) (m3 : mg "bool" = none) :
    FnOk P w K mg base CX0 (k + 1) f fd ["thing"] spIsInt := by
  refine F.ok sc_is_int (fun vs H Q E h => ?_) (fun cdv A outer s H vs Q E hr h => ?_)
  · obtain ⟨i, rfl, _⟩ := h; rfl
  · obtain ⟨i, rfl, q⟩ := h
    refine ⟨_, pss_one (ps_ret (pe_and
      (pe_callB call_isi (by rfl) m1 (by decide +kernel) (pa_cons (pv 0) (pa_cons (pe_bltn (v := .ty "int") (by rfl) m2 (by decide +kernel) rfl) pa_nil)))
      (pe_one (pe_not (pe_callB call_isi (by rfl) m1 (by decide +kernel) (pa_cons (pv 0) (pa_cons (pe_bltn (v := .ty "bool") (by rfl) m3 (by decide +kernel) rfl) pa_nil))))))), ?_⟩
    refine ⟨.int i, rfl, .int i, .ty "int", _, _, true, rfl, .ty _, .base (.int i), kit_ty (by decide +kernel), true, rfl, iteT ?_⟩
    exact ⟨.int i, rfl, .int i, .ty "bool", _, _, false, rfl, .ty _, .base (.int i), kit_ty (by decide +kernel), false, rfl, q⟩
def spIsBetween : Sp := fun vs H Q _ => ∃ i l m : Int, vs = [.int i, .int l, .int m] ∧ Q (.bl (decide (l ≤ i) && decide (i ≤ m))) H
theorem ok_is_between {f f1 : Addr} {fd fd1 : FuncData} {k : Nat} (F : Fun K "is_between" "is_between" s_is_between f fd)
    (G1 : FnOk P w K mg base CX0 k f1 fd1 ["thing"] spIsInt) (kp1 : PySem.W.keepIn K (.ref f1) = true) (b1 : Binds K fd1 ["thing"] []) (g1 : mg "is_int" = some (.ref f1)) :
    FnOk P w K mg base CX0 (k + 1) f fd ["thing", "least", "most"] spIsBetween := by
  refine F.ok sc_is_between (fun vs H Q E h => ?_) (fun cdv A outer s H vs Q E hr h => ?_)
  · obtain ⟨i, l, m, rfl, _⟩ := h; rfl
  · obtain ⟨i, l, m, rfl, q⟩ := h
    refine ⟨_, pss_one (ps_ret (pe_and (pe_call G1 hr (by rfl) g1 kp1 b1 .nil pass0 (pa_cons (pv 0) pa_nil)) (pe_one (pe_chain op_le op_le (pv 1) (pv 0) (pv 2))))), ?_⟩
    refine ⟨.int i, rfl, i, rfl, true, rfl, iteT ?_⟩
    refine ⟨.int l, rfl, .int i, rfl, l, i, rfl, rfl, decide (l ≤ i), rfl, ?_⟩
    by_cases h1 : l ≤ i
    · rw [decide_eq_true h1] at q ⊢
      exact iteT ⟨.int m, rfl, i, m, rfl, rfl, q⟩
    · rw [decide_eq_false h1] at q ⊢
      exact iteF q
/-! ### is_int, is_between: of any data -/
theorem isInt_eq (d : PyData) : (isB "int" d && !isB "bool" d) = isIntD d := by
  cases d <;> rfl
def spIsIntA (K : PySem.W.Frag) : Sp := fun vs H Q _ => ∃ v d, vs = [v] ∧ Aq K H v d ∧ Q (.bl (isIntD d)) H
theorem ok_is_intA {f : Addr} {fd : FuncData} {k : Nat} (F : Fun K "is_int" "is_int" s_is_int f fd) (m1 : mg "isinstance" = none) (m2 : mg "int" = none) (m3 : mg "bool" = none) :
    FnOk P w K mg base CX0 (k + 1) f fd ["thing"] (spIsIntA K) := by
  refine F.ok sc_is_int (fun vs H Q E h => ?_) (fun cdv A outer s H vs Q E hr h => ?_)
  · obtain ⟨v, d, rfl, _⟩ := h; rfl
  · obtain ⟨v, d, rfl, hd, q⟩ := h
    refine ⟨_, pss_one (ps_ret (pe_and
      (pe_callB call_isiA (by rfl) m1 (by decide +kernel) (pa_cons (pv 0) (pa_cons (pe_bltn (v := .ty "int") (by rfl) m2 (by decide +kernel) rfl) pa_nil)))
      (pe_one (pe_not (pe_callB call_isiA (by rfl) m1 (by decide +kernel) (pa_cons (pv 0) (pa_cons (pe_bltn (v := .ty "bool") (by rfl) m3 (by decide +kernel) rfl) pa_nil))))))), ?_⟩
    refine ⟨v, rfl, v, d, "int", rfl, hd, .inr (.inl rfl), isB "int" d, rfl, ?_⟩
    have e := isInt_eq d
    cases h1 : isB "int" d with
    | false => rw [h1] at e; rw [← e] at q; exact iteF q
    | true =>
      refine iteT ⟨v, rfl, v, d, "bool", rfl, hd, .inr (.inr (.inl rfl)), isB "bool" d, rfl, ?_⟩
      rw [h1, Bool.true_and] at e
      rw [← e] at q
      exact q
def spBetA (K : PySem.W.Frag) : Sp := fun vs H Q _ => ∃ v d, ∃ l m : Int, vs = [v, .int l, .int m] ∧ Aq K H v d ∧ Q (.bl (betD d l m)) H
theorem ok_is_betweenA {f f1 : Addr} {fd fd1 : FuncData} {k : Nat} (F : Fun K "is_between" "is_between" s_is_between f fd)
    (G1 : FnOk P w K mg base CX0 k f1 fd1 ["thing"] (spIsIntA K)) (kp1 : PySem.W.keepIn K (.ref f1) = true) (b1 : Binds K fd1 ["thing"] []) (g1 : mg "is_int" = some (.ref f1)) :
    FnOk P w K mg base CX0 (k + 1) f fd ["thing", "least", "most"] (spBetA K) := by
  refine F.ok sc_is_between (fun vs H Q E h => ?_) (fun cdv A outer s H vs Q E hr h => ?_)
  · obtain ⟨v, d, l, m, rfl, _⟩ := h; rfl
  · obtain ⟨v, d, l, m, rfl, hd, q⟩ := h
    refine ⟨_, pss_one (ps_ret (pe_and (pe_call G1 hr (by rfl) g1 kp1 b1 .nil pass0 (pa_cons (pv 0) pa_nil)) (pe_one (pe_chain op_le op_le (pv 1) (pv 0) (pv 2))))), ?_⟩
    refine ⟨v, rfl, v, d, rfl, hd, isIntD d, rfl, ?_⟩
    cases hi : isIntD d with
    | false =>
      have e : betD d l m = false := by cases d <;> first | rfl | exact nomatch hi
      rw [e] at q
      exact iteF q
    | true =>
      obtain ⟨i, rfl⟩ : ∃ i, d = .int i := by cases d <;> first | exact ⟨_, rfl⟩ | exact nomatch hi
      obtain rfl : v = .int i := by
        cases hd with
        | data hd => cases hd; rfl
      refine iteT ⟨.int l, rfl, .int i, rfl, l, i, rfl, rfl, decide (l ≤ i), rfl, ?_⟩
      have e : betD (.int i) l m = (decide (l ≤ i) && decide (i ≤ m)) := rfl
      rw [e] at q
      by_cases h1 : l ≤ i
      · rw [decide_eq_true h1] at q ⊢
        exact iteT ⟨.int m, rfl, i, m, rfl, rfl, q⟩
      · rw [decide_eq_false h1] at q ⊢
        exact iteF q
/-! ### _law_is_whole -/
theorem ok_is_whole {f : Addr} {fd : FuncData} {k : Nat} (F : Fun K "_law_is_whole" "_law_is_whole" s_l_is_whole f fd) (m1 : mg "isinstance" = none) (m2 : mg "int" = none) (m3 : mg "bool" = none) :
    FnOk P w K mg base CX0 (k + 1) f fd ["_law_thing", "_law_low_here", "_law_high"] (spBetA K) := by
  refine F.ok sc_l_is_whole (fun vs H Q E h => ?_) (fun cdv A outer s H vs Q E hr h => ?_)
  · obtain ⟨v, d, l, m, rfl, _⟩ := h; rfl
  · obtain ⟨v, d, l, m, rfl, hd, q⟩ := h
    refine ⟨_, pss_one (ps_ret (pe_and
      (pe_callB call_isiA (by rfl) m1 (by decide +kernel) (pa_cons (pv 0) (pa_cons (pe_bltn (v := .ty "int") (by rfl) m2 (by decide +kernel) rfl) pa_nil)))
      (pe_and (pe_not (pe_callB call_isiA (by rfl) m1 (by decide +kernel) (pa_cons (pv 0) (pa_cons (pe_bltn (v := .ty "bool") (by rfl) m3 (by decide +kernel) rfl) pa_nil))))
        (pe_one (pe_chain op_le op_le (pv 1) (pv 0) (pv 2)))))), ?_⟩
    refine ⟨v, rfl, v, d, "int", rfl, hd, .inr (.inl rfl), isB "int" d, rfl, ?_⟩
    have e := isInt_eq d
    have no : isIntD d = false → betD d l m = false := fun z => by cases d <;> first | rfl | exact nomatch z
    cases h1 : isB "int" d with
    | false =>
      rw [h1] at e
      rw [no e.symm] at q
      exact iteF q
    | true =>
      rw [h1, Bool.true_and] at e
      refine iteT ⟨v, rfl, v, d, "bool", rfl, hd, .inr (.inr (.inl rfl)), isB "bool" d, rfl, !isB "bool" d, rfl, ?_⟩
      rw [e]
      cases hi : isIntD d with
      | false => rw [no hi] at q; exact iteF q
      | true =>
        obtain ⟨i, rfl⟩ : ∃ i, d = .int i := by cases d <;> first | exact ⟨_, rfl⟩ | exact nomatch hi
        obtain rfl : v = .int i := by
          cases hd with
          | data hd => cases hd; rfl
        refine iteT ⟨.int l, rfl, .int i, rfl, l, i, rfl, rfl, decide (l ≤ i), rfl, ?_⟩
        have e : betD (.int i) l m = (decide (l ≤ i) && decide (i ≤ m)) := rfl
        rw [e] at q
        by_cases h1 : l ≤ i
        · rw [decide_eq_true h1] at q ⊢
          exact iteT ⟨.int m, rfl, i, m, rfl, rfl, q⟩
        · rw [decide_eq_false h1] at q ⊢
          exact iteF q
/-! ### the script's cells, the pen -/
def spCell (K : PySem.W.Frag) : Sp := fun vs H Q _ => ∃ (a : Addr) (ns : List Int) (k : Nat), vs = [.ref a, .int k] ∧ SqL K H a (ns.map V.int) ∧ ∀ r : Int, Q (.int r) H
theorem ok_l_cell {f : Addr} {fd : FuncData} {k : Nat} (F : Fun K "_law_cell" "_law_cell" s_l_cell f fd) (m1 : mg "len" = none) :
    FnOk P w K mg base CX0 (k + 1) f fd ["_law_script", "_law_k"] (spCell K) := by
  refine F.ok sc_l_cell (fun vs H Q E h => ?_) (fun cdv A outer s H vs Q E hr h => ?_)
  · obtain ⟨a, ns, j, rfl, _⟩ := h; rfl
  · obtain ⟨a, ns, j, rfl, hS, q⟩ := h
    refine ⟨_, pss_one (ps_ret (pe_ifExp (pt_cmpR op_lt (pv 1) (pe_callB call_len_seq (by rfl) m1 PySem.boot_len (pa_cons (pv 0) pa_nil)) (nomark _))
      (pe_ix ix_list (pv 0) (pv 1) (fun _ _ => rfl)) pe_int)), ?_⟩
    refine ⟨.int j, rfl, .ref a, rfl, a, ns.map V.int, rfl, .inl hS, _, _, rfl, rfl, _, rfl, ite2 (fun e => ?_) (fun e => ?_)⟩
    · have e1 : (j : Int) < ((ns.map V.int).length : Nat) := of_decide_eq_true e
      have e2 : j < ns.length := by rw [List.length_map] at e1; omega
      refine ⟨.ref a, rfl, .int j, rfl, a, ns.map V.int, (j : Int), .int ns[j], rfl, rfl, hS, atI_nat ?_, q _⟩
      rw [List.getElem?_map, List.getElem?_eq_getElem e2]; rfl
    · exact q 0
def spPen : Sp := fun vs H Q _ => ∃ c : Int, vs = [.int c] ∧ ∀ H' p, H p = none → Same H H' → PenAt H' p → Q (.ref p) H'
theorem ok_l_pen {f : Addr} {fd : FuncData} {k : Nat} (F : Fun K "_law_pen" "_law_pen" s_l_pen f fd) (m1 : mg "max" = none) :
    FnOk P w K mg base CX0 (k + 1) f fd ["_law_cell_here"] spPen := by
  refine F.ok sc_l_pen (fun vs H Q E h => ?_) (fun cdv A outer s H vs Q E hr h => ?_)
  · obtain ⟨c, rfl, _⟩ := h; rfl
  · obtain ⟨c, rfl, q⟩ := h
    refine ⟨_, pss_one (ps_ret (pe_lst (pa_cons (pe_callB (call_max2 rfl) (by rfl) m1 (by decide +kernel) (pa_cons pe_int (pa_cons (pe_op op_sub (pv 0) (pe_op op_pow pe_int pe_int)) pa_nil)))
      (pa_cons (pe_op op_add (pe_op op_mod (pv 0) pe_int) pe_int) (pa_cons pe_int pa_nil))))), ?_⟩
    refine ⟨.int c, rfl, 10, 18, rfl, rfl, (by show (0 : Int) ≤ 18 ∧ (18 : Int) ≤ 1000000 ∧ _; decide), c, _, rfl, rfl, _, _, rfl, ?_⟩
    refine ⟨.int c, rfl, c, 2147483629, rfl, rfl, (by show (0 : Int) < 2147483629; decide), _, _, rfl, rfl, ?_⟩
    refine ⟨by show 3 ≤ sizeLine; decide, fun p hp => q _ p hp (same_new hp) ⟨_, _, _, upd_same, ?_⟩⟩
    have h1 := Int.emod_nonneg c (show (2147483629 : Int) ≠ 0 by decide)
    have h2 := Int.emod_lt_of_pos c (show (0 : Int) < 2147483629 by decide)
    constructor <;> omega
/-! ### a draw -/
def spDraw : Sp := fun vs H Q _ => ∃ (p : Addr) (m : Int), vs = [.ref p, .int m] ∧ PenAt H p ∧ 0 < m ∧ m < 1000000 ∧
  ∀ H' (r : Int), 0 ≤ r → r < m → PenAt H' p → But p H H' → Q (.int r) H'
theorem ok_l_draw {f : Addr} {fd : FuncData} {k : Nat} (F : Fun K "_law_draw" "_law_draw" s_l_draw f fd) :
    FnOk P w K mg base CX0 (k + 1) f fd ["_law_pen_here", "_law_many"] spDraw := by
  refine F.ok sc_l_draw (fun vs H Q E h => ?_) (fun cdv A outer s H vs Q E hr h => ?_)
  · obtain ⟨p, m, rfl, _⟩ := h; rfl
  · obtain ⟨p, m, rfl, ⟨a, b, c, hp, hb0, hb1⟩, hm0, hm1, q⟩ := h
    refine ⟨_, pss_cons (ps_if (pt_cmpR op_gt (pe_ix ix_list (pv 0) pe_int (fun _ _ => rfl)) pe_int (nomark _))
        (pss_cons (ps_set (i := 2) sc_l_draw.nd rfl (.inl rfl) (pe_op op_mod (pe_ix ix_list (pv 0) pe_int (fun _ _ => rfl)) (pv 1)))
        (pss_cons (ps_asg (pe_op op_fdiv (pe_ix ix_list (pv 0) pe_int (fun _ _ => rfl)) (pv 1)) (pg_sub (pv 0) pe_int set_list))
        (pss_one (ps_ret (pv 2))))) pss_nil)
      (pss_cons (ps_asg (pe_op op_add (pe_ix ix_list (pv 0) pe_int (fun _ _ => rfl)) pe_int) (pg_sub (pv 0) pe_int set_list))
      (pss_cons (ps_asg (pe_op op_mod (pe_op op_add (pe_op op_add (pe_op op_mul (pe_ix ix_list (pv 0) pe_int (fun _ _ => rfl)) pe_int)
            (pe_op op_mul pe_int (pe_ix ix_list (pv 0) pe_int (fun _ _ => rfl)))) pe_int) pe_int) (pg_sub (pv 0) pe_int set_list))
      (pss_cons (ps_set (i := 3) sc_l_draw.nd rfl (.inl rfl) (pe_op op_mod (pe_op op_add (pe_op op_add (pe_op op_mul (pe_ix ix_list (pv 0) pe_int (fun _ _ => rfl)) (pe_ix ix_list (pv 0) pe_int (fun _ _ => rfl)))
            (pe_op op_mul pe_int (pe_ix ix_list (pv 0) pe_int (fun _ _ => rfl)))) pe_int) pe_int))
      (pss_cons (ps_set (i := 3) sc_l_draw.nd rfl (.inl rfl) (pe_op op_mod (pe_op op_add (pe_op op_mul (pv 3) (pv 3)) (pe_op op_mul pe_int (pv 3))) pe_int))
      (pss_one (ps_ret (pe_op op_mod (pe_op op_fdiv (pv 3) pe_int) (pv 1)))))))), ?_⟩
    refine ⟨.ref p, rfl, p, _, 0, .int a, rfl, rfl, .of hp, atI0, a, 0, rfl, rfl, _, rfl, ite2 (fun e => ?_) (fun e => ?_)⟩
    · have ha : 0 < a := of_decide_eq_true e
      refine ⟨.ref p, rfl, p, _, 0, .int a, rfl, rfl, .of hp, atI0, .int m, rfl, a, m, rfl, rfl, hm0, ?_⟩
      refine ⟨.ref p, rfl, p, _, 0, .int a, rfl, rfl, .of hp, atI0, .int m, rfl, a, m, rfl, rfl, ⟨hm0, (by omega)⟩, ?_⟩
      refine ⟨.ref p, rfl, p, _, 0, 0, rfl, rfl, hp, rfl, ?_⟩
      refine ⟨.int (a % m), rfl, q _ _ (Int.emod_nonneg a (by omega)) (Int.emod_lt_of_pos a hm0) ⟨a / m, b, c, upd_same, hb0, hb1⟩ But.upd⟩
    · refine ⟨.ref p, rfl, p, _, 2, .int c, rfl, rfl, .of hp, atI2, c, 1, rfl, rfl, ?_⟩
      refine ⟨.ref p, rfl, p, _, 2, 2, rfl, rfl, hp, rfl, ?_⟩
      have hp1 : (upd H p (.lst [.int a, .int b, .int (c + 1)])) p = some (.lst [.int a, .int b, .int (c + 1)]) := upd_same
      refine ⟨.ref p, rfl, p, _, 1, .int b, rfl, rfl, .of hp1, atI1, b, 48271, rfl, rfl, .inl ⟨by omega, by omega⟩, ?_⟩
      refine ⟨.ref p, rfl, p, _, 2, .int (c + 1), rfl, rfl, .of hp1, atI2, 1009, c + 1, rfl, rfl, .inl (by decide), ?_⟩
      refine ⟨_, _, rfl, rfl, _, _, rfl, rfl, _, 2147483647, rfl, rfl, (by show (0 : Int) < 2147483647; decide), ?_⟩
      refine ⟨.ref p, rfl, p, _, 1, 1, rfl, rfl, hp1, rfl, ?_⟩
      dsimp only [List.set]
      generalize hb' : (b * 48271 + 1009 * (c + 1) + 7) % 2147483647 = b'
      have g1 : 0 ≤ b' := by rw [← hb']; exact Int.emod_nonneg _ (by decide)
      have g2 : b' < 2147483647 := by rw [← hb']; exact Int.emod_lt_of_pos _ (by decide)
      have hp2 : (upd (upd H p (.lst [.int a, .int b, .int (c + 1)])) p (.lst [.int a, .int b', .int (c + 1)])) p = some (.lst [.int a, .int b', .int (c + 1)]) := upd_same
      refine ⟨.ref p, rfl, p, _, 1, .int b', rfl, rfl, .of hp2, atI1, .ref p, rfl, p, _, 1, .int b', rfl, rfl, .of hp2, atI1, b', b', rfl, rfl, .inl ⟨by omega, by omega⟩, ?_⟩
      refine ⟨.ref p, rfl, p, _, 1, .int b', rfl, rfl, .of hp2, atI1, 69621, b', rfl, rfl, .inl (by decide), ?_⟩
      refine ⟨_, _, rfl, rfl, _, _, rfl, rfl, _, 2147483629, rfl, rfl, (by show (0 : Int) < 2147483629; decide), ?_⟩
      dsimp only
      generalize ht : (b' * b' + 69621 * b' + 11) % 2147483629 = t
      have t1 : 0 ≤ t := by rw [← ht]; exact Int.emod_nonneg _ (by decide)
      have t2 : t < 2147483629 := by rw [← ht]; exact Int.emod_lt_of_pos _ (by decide)
      refine ⟨.int t, rfl, .int t, rfl, t, t, rfl, rfl, .inl ⟨by omega, by omega⟩, .int t, rfl, 40014, t, rfl, rfl, .inl (by decide), _, _, rfl, rfl, _, 2147483587, rfl, rfl, (by show (0 : Int) < 2147483587; decide), ?_⟩
      refine ⟨_, rfl, _, 16, rfl, rfl, ⟨by decide, by decide⟩, .int m, rfl, _, m, rfl, rfl, hm0, ?_⟩
      refine q _ _ (Int.emod_nonneg _ (by omega)) (Int.emod_lt_of_pos _ hm0) ⟨a, b', c + 1, upd_same, by omega, by omega⟩ ?_
      exact But.upd.trans But.upd
end
end Sg
set_option Elab.async false
set_option linter.all false
set_option maxRecDepth 100000
set_option maxHeartbeats 4000000
namespace Sg
open PySem PySem.Spec PyProof.Rows L2
section
variable {P : Program} {w : World} {K : PySem.W.Frag} {mg : Str → Option Value} {base : Heap}
/-! ### is_work, of a work -/
def spIsWork (K : PySem.W.Frag) : Sp := fun vs H Q _ => ∃ (a : Addr) (ns : List Int), vs = [.ref a] ∧ SqT K H a (ns.map V.int) ∧ IsWork ns ∧ ∀ H', Same H H' → Q (.bl true) H'
theorem ok_is_work {f f1 : Addr} {fd fd1 : FuncData} {k : Nat} (F : Fun K "is_work" "is_work" s_is_work f fd) (N : Nums mg)
    (G1 : FnOk P w K mg base CX0 k f1 fd1 ["thing", "least", "most"] spIsBetween) (kp1 : PySem.W.keepIn K (.ref f1) = true) (b1 : Binds K fd1 ["thing", "least", "most"] []) (g1 : mg "is_between" = some (.ref f1))
    (m1 : mg "isinstance" = none) (m2 : mg "tuple" = none) (m3 : mg "len" = none) (m4 : mg "all" = none) :
    FnOk P w K mg base CX0 (k + 1) f fd ["thing"] (spIsWork K) := by
  obtain ⟨t1, n1⟩ := N.nowhere
  obtain ⟨t2, n2⟩ := N.stations
  obtain ⟨t3, n3⟩ := N.most
  refine F.ok sc_is_work (fun vs H Q E h => ?_) (fun cdv A outer s H vs Q E hr h => ?_)
  · obtain ⟨a, ns, rfl, _⟩ := h; rfl
  · obtain ⟨a, ns, rfl, hS, hw, q⟩ := h
    refine ⟨_, pss_cons (ps_if (PW.pt (pw_or (pt_not (pt_val (pe_callB call_isi (by rfl) m1 (by decide +kernel) (pa_cons (pv 0) (pa_cons (pe_bltn (v := .ty "tuple") (by rfl) m2 (by decide +kernel) rfl) pa_nil)))))
          (pw_or1 (pt_not (pt_chain op_le op_le pe_int (pe_callB call_len_seq (by rfl) m3 PySem.boot_len (pa_cons (pv 0) pa_nil)) (pe_glob (v := .int 60) (by rfl) n3 ⟨_, rfl⟩))))))
        (pss_one (ps_ret pe_bl)) pss_nil)
      (pss_cons (ps_if (pt_not (pt_val (pe_callB (cr_all rfl) (by rfl) m4 (by decide +kernel) (pa_cons
          (pe_lc (own := [("item", 1)]) (g := gName 1) (tt := tYes) rfl sc_is_work.nd (pi_tup (pv 0)) (blkOk_by (N := ["thing", "item"]) (sc := defScope s_is_work) (by decide +kernel))
            (fun _ _ _ _ _ => pg_name (i := 1) sc_is_work.nd rfl (Or.inl rfl)) (fun _ _ _ _ _ => pts_nil)
            (fun _ _ _ _ _ => pe_call G1 hr (by rfl) g1 kp1 b1 .nil pass0 (pa_cons (pv 1) (pa_cons (pe_glob (v := .int (-1)) (by rfl) n1 ⟨_, rfl⟩) (pa_cons (pe_op op_sub (pe_glob (v := .int 10) (by rfl) n2 ⟨_, rfl⟩) pe_int) pa_nil))))) pa_nil))))
        (pss_one (ps_ret pe_bl)) pss_nil)
      (pss_one (ps_ret (pe_and (pe_cmpR op_ne (pe_ix ix_tup (pv 0) pe_int (fun _ _ => rfl)) (pe_glob (v := .int (-1)) (by rfl) n1 ⟨_, rfl⟩) (nomark _))
        (pe_one (pe_cmpR op_ne (pe_ix ix_tup (pv 0) (pe_un un_neg pe_int) (fun _ _ => rfl)) (pe_glob (v := .int (-1)) (by rfl) n1 ⟨_, rfl⟩) (nomark _))))))), ?_⟩
    have l1 : ((ns.map V.int).length : Int) = ns.length := by rw [List.length_map]
    refine ⟨.ref a, rfl, .ref a, .ty "tuple", _, _, true, rfl, .ty _, tyT hS, kit_ty (by decide +kernel), true, rfl, iteF ?_⟩
    refine ⟨.ref a, rfl, a, ns.map V.int, rfl, .inr hS, 1, _, rfl, rfl, _, rfl, ?_⟩
    have c1 : decide ((1 : Int) ≤ ((ns.map V.int).length : Nat)) = true := decide_eq_true (by rw [List.length_map]; have := hw.pos; omega)
    rw [c1]
    refine iteT ⟨_, 60, rfl, rfl, _, rfl, ?_⟩
    have c2 : decide ((((ns.map V.int).length : Nat) : Int) ≤ 60) = true := decide_eq_true (by rw [List.length_map]; have := hw.most; omega)
    rw [c2]
    refine iteF ?_
    refine ⟨.ref a, rfl, a, rfl, ⟨_, hS⟩, fun D hD => ?_⟩
    refine lc_tup (xs := ns.map V.int) (fun i H' => Same H H' ∧ H' D = some (.lst ((((ns.take i).map inR)).map V.bl))) ⟨same_new hD, upd_same⟩ (fun i H' _ h => Same.tup h.1 hS) (fun i x H' hx h => ?_) (fun H' h => ?_)
    · rw [List.getElem?_map] at hx
      obtain ⟨z, hz, rfl⟩ := Option.map_eq_some_iff.mp hx
      have hl : i < ns.length := (List.getElem?_eq_some_iff.mp hz).1
      refine ⟨rfl, .int z, rfl, 10, 1, rfl, rfl, z, -1, _, rfl, ?_⟩
      refine ⟨_, h.2, ?_, fun b o e => ?_, ?_⟩
      · rw [List.length_map, List.length_map, List.length_take]
        have := hw.most
        exact small1000 (by omega)
      · rw [upd_ne (ne_of_none e hD)]
        exact h.1 _ _ e
      · rw [upd_same, List.take_add_one, hz, List.map_append, List.map_append]
        rfl
    · have hall : (((ns.take ns.length).map inR)).all id = true := by
        rw [List.take_length, List.all_map, List.all_eq_true]
        intro x hx
        have := hw.items x hx
        simp [inR, this.1, this.2]
      have h2 := h.2
      rw [List.length_map] at h2
      refine ⟨D, _, rfl, .of h2, true, congrArg V.bl hall, iteF ?_⟩
      have hS' : SqT K H' a (ns.map V.int) := Same.tup h.1 hS
      obtain ⟨x, hx⟩ : ∃ x, ns[0]? = some x := ⟨ns[0]'(hw.pos), List.getElem?_eq_getElem _⟩
      have hpos := hw.pos
      obtain ⟨y, hy⟩ : ∃ y, ns[ns.length - 1]? = some y := ⟨ns[ns.length - 1]'(by omega), List.getElem?_eq_getElem _⟩
      have gx : (ns.map V.int)[0]? = some (.int x) := by rw [List.getElem?_map, hx]; rfl
      have gy : atI (ns.map V.int) (-1) = some (.int y) := by
        have hne : ns ≠ [] := fun z => by rw [z] at hpos; exact absurd hpos (by decide)
        have e1 : ns = ns.dropLast ++ [y] := by
          have e2 : ns.getLast hne = y := by
            have := List.getLast_eq_getElem hne
            rw [this]
            exact (List.getElem?_eq_some_iff.mp hy).2
          rw [← e2, List.dropLast_concat_getLast]
        rw [e1, List.map_append]
        exact atI_last _ _
      refine ⟨.ref a, rfl, a, _, 0, .int x, rfl, rfl, hS', atI_nat (j := 0) gx, rfl, ?_⟩
      have d1 : decide (V.int x = V.int (-1)) = false := decide_eq_false fun z => hw.head x hx (V.int.inj z)
      rw [d1]
      refine ⟨true, rfl, iteT ?_⟩
      refine ⟨.ref a, rfl, 1, rfl, a, _, -1, .int y, rfl, rfl, hS', gy, rfl, ?_⟩
      have d2 : decide (V.int y = V.int (-1)) = false := decide_eq_false fun z => hw.last y hy (V.int.inj z)
      rw [d2]
      exact q H' h.1
def spReq (K : PySem.W.Frag) : Sp := fun vs H Q _ => ∃ (a : Addr) (ns : List Int), vs = [.ref a] ∧ SqT K H a (ns.map V.int) ∧ IsWork ns ∧ ∀ H', Same H H' → Q .non H'
theorem ok_require_work {f f1 : Addr} {fd fd1 : FuncData} {k : Nat} (F : Fun K "require_work" "require_work" s_require_work f fd)
    (G1 : FnOk P w K mg base CX0 k f1 fd1 ["thing"] (spIsWork K)) (kp1 : PySem.W.keepIn K (.ref f1) = true) (b1 : Binds K fd1 ["thing"] []) (g1 : mg "is_work" = some (.ref f1)) :
    FnOk P w K mg base CX0 (k + 1) f fd ["thing"] (spReq K) := by
  refine F.ok sc_require_work (fun vs H Q E h => ?_) (fun cdv A outer s H vs Q E hr h => ?_)
  · obtain ⟨a, ns, rfl, _⟩ := h; rfl
  · obtain ⟨a, ns, rfl, hS, hw, q⟩ := h
    refine ⟨_, pss_one (ps_if (pt_not (pt_val (pe_call G1 hr (by rfl) g1 kp1 b1 .nil pass0 (pa_cons (pv 0) pa_nil)))) (pss_one ps_never) pss_nil), ?_⟩
    exact ⟨.ref a, rfl, a, ns, rfl, hS, hw, fun H' sm => ⟨true, rfl, iteF (q H' sm)⟩⟩
/-! ### _clashes_behind -/
def spClash (K : PySem.W.Frag) : Sp := fun vs H Q _ => ∃ (a b : Addr) (one other : List Int) (d : Nat), vs = [.ref a, .ref b, .int d] ∧ SqT K H a (one.map V.int) ∧ SqT K H b (other.map V.int) ∧ one.length ≤ 60 ∧ 1 ≤ d ∧ d < one.length ∧
  ∀ H', Same H H' → Q (.bl (clashB one other d)) H'
theorem ok_clashes_behind {f : Addr} {fd : FuncData} {k : Nat} (F : Fun K "_clashes_behind" "_clashes_behind" s_clashes_behind f fd) (N : Nums mg) (m1 : mg "any" = none) (m2 : mg "zip" = none) :
    FnOk P w K mg base CX0 (k + 1) f fd ["one", "other", "distance"] (spClash K) := by
  obtain ⟨t1, n1⟩ := N.nowhere
  refine F.ok sc_clashes_behind (fun vs H Q E h => ?_) (fun cdv A outer s H vs Q E hr h => ?_)
  · obtain ⟨a, b, o1, o2, d, rfl, _⟩ := h; rfl
  · obtain ⟨a, b, one, other, d, rfl, hA, hB, hm, hd1, hd2, q⟩ := h
    refine ⟨_, pss_one (ps_ret (pe_callB (cr_any rfl) (by rfl) m1 (by decide +kernel) (pa_cons
      (pe_lc (own := [("here", 3), ("there", 4)]) (g := gTup K 2 (gCons (gName 3) (gCons (gName 4) gNil))) (tt := tYes) rfl sc_clashes_behind.nd (RZ.pi_zipA (by rfl) m2 (pa_cons (pe_slice sl_tup (pv 0) (po_some (pv 2)) po_none) (pa_cons (pv 1) pa_nil)))
        (blkOk_by (N := ["one", "other", "distance", "here", "there"]) (sc := defScope s_clashes_behind) (by decide +kernel))
        (fun _ _ _ _ _ => pg_tup rfl (pgs_cons (pg_name (i := 3) sc_clashes_behind.nd rfl (Or.inl rfl)) (pgs_cons (pg_name (i := 4) sc_clashes_behind.nd rfl (Or.inl rfl)) pgs_nil)))
        (fun _ _ _ _ _ => pts_nil)
        (fun _ _ _ _ _ => pe_and (pe_cmpR op_eq (pv 3) (pv 4) (nomark _)) (pe_one (pe_cmpR op_ne (pv 3) (pe_glob (v := .int (-1)) (by rfl) n1 ⟨_, rfl⟩) (nomark _))))) pa_nil))), ?_⟩
    have hcut : cutV (one.map V.int) (some (d : Int)) none = (one.drop d).map V.int := by rw [cut_from, List.map_drop]
    refine ⟨.ref a, rfl, .int d, rfl, d, rfl, a, _, rfl, hA, ?_, fun c nc => ?_⟩
    · rintro ⟨z, _⟩
      rw [HT.sIx_nat, List.length_map] at z
      omega
    rw [hcut]
    have s1 : Same H (upd H c (.tup ((one.drop d).map V.int))) := same_new nc
    refine ⟨.ref b, rfl, c, b, _, _, rfl, .inr ⟨.of upd_same, Same.tup s1 hB, fun D hD => ?_⟩⟩
    have s2 : Same (upd H c (.tup ((one.drop d).map V.int))) (upd (upd H c (.tup ((one.drop d).map V.int))) D (.lst [])) := same_new hD
    have hc0 : (upd H c (.tup ((one.drop d).map V.int))) c = some (.tup ((one.drop d).map V.int)) := upd_same
    refine lc_it (walk_zipT (xs := (one.drop d).map V.int) (ys := other.map V.int) (n := min (one.drop d).length other.length) (by rw [List.length_map, List.length_map]))
      (fun i H' => Same (upd H c (.tup ((one.drop d).map V.int))) H' ∧ H' D = some (.lst ((hitsTo one other d i).map V.bl))) ⟨s2, upd_same⟩
      (fun i H' _ h => ⟨.of (h.1 _ _ hc0), Same.tup (s1.trans h.1) hB⟩) (fun i x H' H'' hi h hY => ?_) (fun H' h => ?_)
    · obtain ⟨T, x1, x2, rfl, nT, rfl, f1, f2⟩ := hY
      dsimp only at f1 f2
      rw [List.getElem?_map] at f1 f2
      obtain ⟨z1, hz1, rfl⟩ := Option.map_eq_some_iff.mp f1
      obtain ⟨z2, hz2, rfl⟩ := Option.map_eq_some_iff.mp f2
      have nTD : D ≠ T := ne_of_none h.2 nT
      refine ⟨T, _, rfl, .of upd_same, rfl, _, _, rfl, _, _, rfl, rfl, rfl, ?_⟩
      have fin : ∀ bb : Bool, bb = (z1 == z2 && z1 != -1) → ∃ acc, (upd H' T (.tup [V.int z1, V.int z2])) D = some (.lst acc) ∧ acc.length < sizeLine ∧
          (Same (upd H c (.tup ((one.drop d).map V.int))) (upd (upd H' T (.tup [V.int z1, V.int z2])) D (.lst (acc ++ [V.bl bb]))) ∧ (upd (upd H' T (.tup [V.int z1, V.int z2])) D (.lst (acc ++ [V.bl bb]))) D = some (.lst ((hitsTo one other d (i + 1)).map V.bl))) := by
        rintro bb rfl
        refine ⟨_, by rw [upd_ne nTD]; exact h.2, ?_, fun y o e => ?_, ?_⟩
        · rw [List.length_map]
          have := hits_len one other d i
          exact small1000 (by rw [List.length_drop] at hi; omega)
        · rw [upd_ne (ne_of_none e hD)]
          exact same_new nT _ _ (h.1 _ _ e)
        · rw [upd_same, hits_succ hz1 hz2, List.map_append]
          rfl
      refine ⟨.int z1, rfl, .int z2, rfl, rfl, ?_⟩
      by_cases hz : z1 = z2
      · subst hz
        rw [decide_eq_true (rfl : V.int z1 = V.int z1)]
        refine ⟨true, rfl, iteT ⟨.int z1, rfl, rfl, ?_⟩⟩
        refine fin _ ?_
        by_cases hn : z1 = -1
        · subst hn; rfl
        · rw [decide_eq_false fun z => hn (V.int.inj z)]
          simp [hn]
      · rw [decide_eq_false fun z => hz (V.int.inj z)]
        refine ⟨false, rfl, iteF (fin _ ?_)⟩
        simp [hz]
    · refine ⟨D, _, rfl, .of h.2, ?_⟩
      rw [hits_any]
      exact q H' (s1.trans h.1)
/-! ### bars -/
def spBars (K : PySem.W.Frag) : Sp := fun vs H Q _ => ∃ (a b : Addr) (one other : List Int), vs = [.ref a, .ref b] ∧ SqT K H a (one.map V.int) ∧ SqT K H b (other.map V.int) ∧ IsWork one ∧ IsWork other ∧
  ∀ H' p, Same H H' → H p = none → H' p = some (.tup (nV (barsN one other))) → Q (.ref p) H'
theorem ok_bars {f f1 f2 : Addr} {fd fd1 fd2 : FuncData} {k : Nat} (F : Fun K "bars" "bars" s_bars f fd)
    (G1 : FnOk P w K mg base CX0 k f1 fd1 ["thing"] (spReq K)) (kp1 : PySem.W.keepIn K (.ref f1) = true) (b1 : Binds K fd1 ["thing"] []) (g1 : mg "require_work" = some (.ref f1))
    (G2 : FnOk P w K mg base CX0 k f2 fd2 ["one", "other", "distance"] (spClash K)) (kp2 : PySem.W.keepIn K (.ref f2) = true) (b2 : Binds K fd2 ["one", "other", "distance"] []) (g2 : mg "_clashes_behind" = some (.ref f2))
    (m1 : mg "tuple" = none) (m2 : mg "range" = none) (m3 : mg "len" = none) :
    FnOk P w K mg base CX0 (k + 1) f fd ["one", "other"] (spBars K) := by
  refine F.ok sc_bars (fun vs H Q E h => ?_) (fun cdv A outer s H vs Q E hr h => ?_)
  · obtain ⟨a, b, o1, o2, rfl, _⟩ := h; rfl
  · obtain ⟨a, b, one, other, rfl, hA, hB, w1, w2, q⟩ := h
    refine ⟨_, pss_cons (ps_expr (pe_call G1 hr (by rfl) g1 kp1 b1 .nil pass0 (pa_cons (pv 0) pa_nil))) (pss_cons (ps_expr (pe_call G1 hr (by rfl) g1 kp1 b1 .nil pass0 (pa_cons (pv 1) pa_nil)))
      (pss_one (ps_ret (pe_callTy call_tuple_of (by rfl) m1 (by decide +kernel) (pa_cons
        (pe_lc (own := [("distance", 2)]) (g := gName 2) rfl sc_bars.nd (pi_range2 (by rfl) m2 (pa_cons pe_int (pa_cons (pe_callB call_len_seq (by rfl) m3 PySem.boot_len (pa_cons (pv 0) pa_nil)) pa_nil)))
          (blkOk_by (N := ["one", "other", "distance"]) (sc := defScope s_bars) (by decide +kernel))
          (fun _ _ _ _ _ => pg_name (i := 2) sc_bars.nd rfl (Or.inl rfl))
          (fun _ _ _ _ _ => pts_one (pt_val (pe_call G2 hr (by rfl) g2 kp2 b2 .nil pass0 (pa_cons (pv 0) (pa_cons (pv 1) (pa_cons (pv 2) pa_nil))))))
          (fun _ _ _ _ _ => pv 2)) pa_nil))))), ?_⟩
    refine ⟨.ref a, rfl, a, one, rfl, hA, w1, fun H1 e1 => ?_⟩
    refine ⟨.ref b, rfl, b, other, rfl, Same.tup e1 hB, w2, fun H2 e2 => ?_⟩
    have e12 : Same H H2 := e1.trans e2
    have hA2 := Same.tup e12 hA
    have hB2 := Same.tup e12 hB
    refine ⟨.ref a, rfl, a, one.map V.int, rfl, .inr hA2, 1, _, rfl, ?_, fun D hD => ?_⟩
    · rw [List.length_map]
      have := w1.most
      omega
    have en : (((one.map V.int).length : Int) - 1).toNat = one.length - 1 := by rw [List.length_map]; omega
    rw [en]
    refine lc_range (lo := 1) (n := one.length - 1) (fun i H' => Same H2 H' ∧ H' D = some (.lst (nV (barsTo one other i)))) ⟨same_new hD, upd_same⟩ (fun i H' hi h => ?_) (fun H' h => ?_)
    · refine ⟨rfl, ?_⟩
      have ed : ((1 : Int) + (i : Int)) = ((1 + i : Nat) : Int) := by omega
      refine ⟨.ref a, rfl, .ref b, rfl, .int (1 + i), rfl, a, b, one, other, 1 + i, by rw [ed]; rfl, Same.tup h.1 hA2, Same.tup h.1 hB2, w1.most, by omega, by omega, fun H'' e3 => ?_⟩
      refine ⟨_, rfl, ?_⟩
      have hD3 := e3 _ _ h.2
      cases hc : clashB one other (1 + i) with
      | true =>
        refine iteT ⟨_, rfl, _, hD3, ?_, fun y o e => ?_, ?_⟩
        · rw [List.length_map]
          have := barsTo_len one other i
          have := w1.most
          exact small1000 (by omega)
        · rw [upd_ne (ne_of_none e hD)]
          exact e3 _ _ (h.1 _ _ e)
        · rw [upd_same, barsTo_yes hc]
      | false =>
        refine iteF ⟨h.1.trans e3, ?_⟩
        rw [barsTo_no hc]
        exact hD3
    · refine ⟨D, _, rfl, .inl ⟨.of h.2, fun l hl => ?_⟩⟩
      have e3 : Same H H' := e12.trans h.1
      exact q _ l (e3.trans (same_new hl)) (Same.free e3 hl) upd_same
end
end Sg
set_option Elab.async false
set_option linter.all false
set_option maxRecDepth 100000
set_option maxHeartbeats 4000000
namespace Sg
open PySem PySem.Spec PyProof.Rows L2
section
variable {P : Program} {w : World} {K : PySem.W.Frag} {mg : Str → Option Value} {base : Heap}
/-! ### len -/
def spLen (K : PySem.W.Frag) (C : Addr) : Sp := fun vs H Q _ => ∃ (a : Addr) (ws : List (List Int)), vs = [.ref a] ∧ LineAt K C H a ws ∧ Q (.int (ws.length : Nat)) H
theorem ok_len {f C : Addr} {fd : FuncData} {k : Nat} (F : Fun K "__len__" "Line.__len__" s_Line_len f fd) (T : LC K mg C) (m1 : mg "len" = none) :
    FnOk P w K mg base CX0 (k + 1) f fd ["self"] (spLen K C) := by
  refine F.ok sc_Line_len (fun vs H Q E h => ?_) (fun cdv A outer s H vs Q E hr h => ?_)
  · obtain ⟨a, ws, rfl, _⟩ := h; rfl
  · obtain ⟨a, ws, rfl, ⟨dx, t, b, r, h1, h2, h3, h4, h5⟩, q⟩ := h
    refine ⟨_, pss_one (ps_ret (pe_callB call_len_seq (by rfl) m1 PySem.boot_len (pa_cons (pe_fld (pv 0) rfl) pa_nil))), ?_⟩
    obtain ⟨t', xs, e, hS, hT⟩ := h2.toTup
    cases e
    refine ⟨.ref a, rfl, a, C, dx, _, _, rfl, h1, T.cl, T.nW, lf_works _ _ _, t, xs, rfl, .inr hS, ?_⟩
    have e := hT.len
    rw [List.length_map] at e
    rw [e]
    exact q
/-! ### is_kind -/
def spIsKind (K : PySem.W.Frag) (C : Addr) : Sp := fun vs H Q _ => ∃ (a : Addr) (ws : List (List Int)) (i : Int), vs = [.ref a, .int i] ∧ LineAt K C H a ws ∧ Q (.bl (decide (0 ≤ i) && decide (i ≤ (ws.length : Nat) - 1))) H
theorem ok_is_kind {f f1 f2 C : Addr} {fd fd1 fd2 : FuncData} {k : Nat} (F : Fun K "is_kind" "is_kind" s_is_kind f fd) (T : LC K mg C) (m1 : mg "len" = none)
    (G1 : FnOk P w K mg base CX0 k f1 fd1 ["thing", "least", "most"] spIsBetween) (kp1 : PySem.W.keepIn K (.ref f1) = true) (b1 : Binds K fd1 ["thing", "least", "most"] []) (g1 : mg "is_between" = some (.ref f1))
    (G2 : FnOk P w K mg base CX0 k f2 fd2 ["self"] (spLen K C)) (b2 : Binds K fd2 ["self"] []) (s2 : PySem.W.findIn K (.ref C) "__len__" = some (some (.ref f2))) (i2 : PySem.W.isFn K (.ref f2) = true) :
    FnOk P w K mg base CX0 (k + 2) f fd ["line", "thing"] (spIsKind K C) := by
  refine F.ok sc_is_kind (fun vs H Q E h => ?_) (fun cdv A outer s H vs Q E hr h => ?_)
  · obtain ⟨a, ws, i, rfl, _⟩ := h; rfl
  · obtain ⟨a, ws, i, rfl, hL, q⟩ := h
    refine ⟨_, pss_one (ps_ret (pe_call G1 (hr.mono (Nat.le_succ k)) (by rfl) g1 kp1 b1 .nil pass0 (pa_cons (pv 1) (pa_cons pe_int (pa_cons (pe_op op_sub (pe_callB (call_lenO G2 hr b2 s2 i2) (by rfl) m1 PySem.boot_len (pa_cons (pv 0) pa_nil)) pe_int) pa_nil))))), ?_⟩
    refine ⟨.int i, rfl, .ref a, rfl, a, rfl, hL.ins, a, ws, rfl, hL, ws.length, rfl, ?_, _, 1, rfl, rfl, i, 0, _, rfl, q⟩
    have := hL.good.few
    omega
def spReqKind (K : PySem.W.Frag) (C : Addr) : Sp := fun vs H Q _ => ∃ (a : Addr) (ws : List (List Int)) (i : Nat), vs = [.ref a, .int i] ∧ LineAt K C H a ws ∧ i < ws.length ∧ Q .non H
theorem ok_require_kind {f f1 C : Addr} {fd fd1 : FuncData} {k : Nat} (F : Fun K "require_kind" "require_kind" s_require_kind f fd)
    (G1 : FnOk P w K mg base CX0 k f1 fd1 ["line", "thing"] (spIsKind K C)) (kp1 : PySem.W.keepIn K (.ref f1) = true) (b1 : Binds K fd1 ["line", "thing"] []) (g1 : mg "is_kind" = some (.ref f1)) :
    FnOk P w K mg base CX0 (k + 1) f fd ["line", "thing"] (spReqKind K C) := by
  refine F.ok sc_require_kind (fun vs H Q E h => ?_) (fun cdv A outer s H vs Q E hr h => ?_)
  · obtain ⟨a, ws, i, rfl, _⟩ := h; rfl
  · obtain ⟨a, ws, i, rfl, hL, hi, q⟩ := h
    refine ⟨_, pss_one (ps_if (pt_not (pt_val (pe_call G1 hr (by rfl) g1 kp1 b1 .nil pass0 (pa_cons (pv 0) (pa_cons (pv 1) pa_nil))))) (pss_one ps_never) pss_nil), ?_⟩
    refine ⟨.ref a, rfl, .int i, rfl, a, ws, i, rfl, hL, ?_⟩
    rw [decide_eq_true (show (0 : Int) ≤ i by omega), decide_eq_true (show (i : Int) ≤ (ws.length : Nat) - 1 by omega)]
    exact ⟨true, rfl, iteF q⟩
/-! ### _bars_of_all -/
def spBarsAll (K : PySem.W.Frag) : Sp := fun vs H Q _ => ∃ (a : Addr) (ws : List (List Int)), vs = [.ref a] ∧ Tp K H (.ref a) (.tuple (tDs ws)) ∧ GoodL ws ∧
  ∀ H' p, Same H H' → Tp K H' (.ref p) (.tuple (barD ws)) → Q (.ref p) H'
theorem ok_bars_of_all {f f1 : Addr} {fd fd1 : FuncData} {k : Nat} (F : Fun K "_bars_of_all" "_bars_of_all" s_bars_of_all f fd) (m1 : mg "tuple" = none)
    (G1 : FnOk P w K mg base CX0 k f1 fd1 ["one", "other"] (spBars K)) (kp1 : PySem.W.keepIn K (.ref f1) = true) (b1 : Binds K fd1 ["one", "other"] []) (g1 : mg "bars" = some (.ref f1)) :
    FnOk P w K mg base CX0 (k + 1) f fd ["works"] (spBarsAll K) := by
  refine F.ok sc_bars_of_all (fun vs H Q E h => ?_) (fun cdv A outer s H vs Q E hr h => ?_)
  · obtain ⟨a, ws, rfl, _⟩ := h; rfl
  · obtain ⟨a, ws, rfl, hW, hg, q⟩ := h
    refine ⟨_, pss_one (ps_ret (pe_callTy call_tuple_of (by rfl) m1 (by decide +kernel) (pa_cons
      (pe_lc (own := [("one", 2)]) (g := gName 2) (tt := tYes) rfl sc_bars_of_all.nd (pi_tup (pv 0)) (blkOk_by (N := ["works", "other", "one"]) (sc := defScope s_bars_of_all) (by decide +kernel))
        (fun _ _ _ _ _ => pg_name (i := 2) sc_bars_of_all.nd rfl (Or.inr rfl)) (fun _ _ _ _ _ => pts_nil)
        (fun s' H' C' cl fp => pe_callTy (call_tuple_ofK (K := K) rfl) (by rfl) m1 (by decide +kernel) (pa_cons
          (pe_lc (own := [("other", 1)]) (g := gName 1) (tt := tYes) rfl sc_bars_of_all.nd (pi_tupK (K := K) rfl (pv 0)) (blkOk_by (by rfl))
            (fun _ _ _ _ _ => pg_name (i := 1) sc_bars_of_all.nd rfl (Or.inl rfl)) (fun _ _ _ _ _ => pts_nil)
            (fun _ _ _ _ _ => pe_call G1 hr (by rfl) g1 kp1 b1 .nil pass0 (pa_cons (pv 2) (pa_cons (pv 1) pa_nil)))) pa_nil))) pa_nil))), ?_⟩
    obtain ⟨a', xs, ea, hS, hT⟩ := hW.toTup
    cases ea
    have hlen := hT.len
    rw [List.length_map] at hlen
    refine ⟨.ref a, rfl, a, rfl, ⟨_, hS⟩, fun D hD => ?_⟩
    refine lc_tup (xs := xs) (fun i H' => Grow K H D (barD ws) i H') (.zero hD) (fun i H' _ h => Same.tup h.1 hS) (fun i x H' hx h => ?_) (fun H' h => ?_)
    · obtain ⟨o, c1, ho, rfl, hc1⟩ := hT.works hx
      have fewr : (ws.map (cellD o)).length ≤ 1000 := by
        have := hg.few
        rw [List.length_map]
        omega
      refine ⟨rfl, ?_⟩
      refine ⟨.ref a, rfl, a, rfl, ⟨_, Same.tup h.1 hS⟩, fun D2 hD2 => ?_⟩
      refine lc_tup (xs := xs) (fun j H2 => Grow K H' D2 (ws.map (cellD o)) j H2) (.zero hD2) (fun i H2 _ h2 => Same.tup (h.1.trans h2.1) hS) (fun j y H2 hy h2 => ?_) (fun H2 h2 => ?_)
      · obtain ⟨o2, c2, ho2, rfl, hc2⟩ := hT.works hy
        refine ⟨rfl, .ref c1, rfl, .ref c2, rfl, c1, c2, o, o2, rfl, Same.tup (h.1.trans h2.1) hc1, Same.tup (h.1.trans h2.1) hc2, hg.mem ho, hg.mem ho2, fun H3 p e3 np hp => ?_⟩
        refine h2.next hD2 fewr e3 (by rw [List.getElem?_map, ho2]; rfl) (.ofInts ?_)
        rw [← nV_eq]
        exact .of hp
      · obtain ⟨e2, acc, g1, g2⟩ := h2.done (by rw [List.length_map, hlen])
        refine ⟨D2, acc, rfl, .inl ⟨.of g1, fun l nl => ?_⟩⟩
        exact h.next hD hg.lt (e2.trans (same_new nl)) (by rw [List.getElem?_map, ho]; rfl) (.new nl g2)
    · obtain ⟨e2, acc, g1, g2⟩ := h.done (by rw [List.length_map, hlen])
      exact ⟨D, acc, rfl, .inl ⟨.of g1, fun l nl => q _ l (e2.trans (same_new nl)) (.new nl g2)⟩⟩
end
end Sg
set_option Elab.async false
set_option linter.all false
set_option maxRecDepth 100000
set_option maxHeartbeats 4000000
namespace Sg
open PySem PySem.Spec PyProof.Rows L2 StX
/-! ## the bars of a line, flat -/
theorem flatL_of {K : PySem.W.Frag} {H : Hp} {a : List Int} : ∀ {cells : List V} {ws : List (List Int)}, TpAll K H cells (ws.map (cellD a)) → FlatL K H cells ((rowB a ws).map V.int)
  | _, [], .no => .nil
  | _, b :: ws, .on t r => by
    obtain ⟨c, rfl, hs⟩ := t.toInts
    show FlatL K H _ ((nI (barsN a b) ++ rowB a ws).map V.int)
    rw [List.map_append]
    exact .cons hs (flatL_of r)
theorem flatR_of {K : PySem.W.Frag} {H : Hp} {vs : List (List Int)} : ∀ {rows : List V} {ws : List (List Int)}, TpAll K H rows (ws.map fun a => rowD a vs) → FlatR K H rows ((allB ws vs).map V.int)
  | _, [], .no => .nil
  | _, b :: ws, .on t r => by
    obtain ⟨c, xs, rfl, hs, ht⟩ := t.toTup
    show FlatR K H _ ((rowB b vs ++ allB ws vs).map V.int)
    rw [List.map_append]
    exact .cons hs (flatL_of ht) (flatR_of r)
theorem bars_le {a b : List Int} (h : IsWork a) : (nI (barsN a b)).length ≤ 60 := by
  rw [List.length_map]
  have := h.most
  exact Nat.le_trans (barsTo_len a b (a.length - 1)) (by omega)
theorem rowB_len {a : List Int} (h : IsWork a) : ∀ (ws : List (List Int)), (rowB a ws).length ≤ 60 * ws.length
  | [] => Nat.le_refl _
  | b :: ws => by
    show (nI (barsN a b) ++ rowB a ws).length ≤ _
    rw [List.length_append, List.length_cons]
    have := bars_le h (b := b)
    have := rowB_len h ws
    omega
theorem allB_len {vs : List (List Int)} : ∀ (ws : List (List Int)), (∀ w ∈ ws, IsWork w) → (allB ws vs).length ≤ 60 * vs.length * ws.length
  | [], _ => Nat.zero_le _
  | b :: ws, h => by
    show (rowB b vs ++ allB ws vs).length ≤ _
    rw [List.length_append, List.length_cons, Nat.mul_succ]
    have := rowB_len (h b List.mem_cons_self) vs
    have := allB_len (vs := vs) ws fun w hw => h w (List.mem_cons_of_mem _ hw)
    omega
theorem mem_allB {ws vs : List (List Int)} {x : Int} : x ∈ allB ws vs ↔ ∃ a ∈ ws, ∃ b ∈ vs, x ∈ nI (barsN a b) := by
  unfold allB rowB
  simp only [List.mem_flatMap]
theorem bar_pos {a b : List Int} {x : Int} (h : x ∈ nI (barsN a b)) : 1 ≤ x := by
  obtain ⟨d, hd, rfl⟩ := List.mem_map.mp h
  have := (List.mem_range'_1.mp (List.mem_filter.mp hd).1).1
  omega
theorem top_of {l : List Int} {m : Int} (hp : ∀ x ∈ l, 1 ≤ x) (h0 : l = [] → m = 0) (h1 : l ≠ [] → m ∈ l ∧ ∀ x ∈ l, x ≤ m) : Top l m := by
  by_cases z : l = []
  · have e := h0 z
    subst z
    exact ⟨by omega, fun x hx => (nomatch hx), .inl e⟩
  · obtain ⟨g1, g2⟩ := h1 z
    exact ⟨by have := hp _ g1; omega, g2, .inr g1⟩
section
variable {P : Program} {w : World} {K : PySem.W.Frag} {mg : Str → Option Value} {base : Heap}
/-! ### __init__ -/
def spInit (K : PySem.W.Frag) (C : Addr) : Sp := fun vs H Q _ => ∃ (x dx : Addr) (rest : List V) (ws : List (List Int)), vs = .ref x :: rest ∧ H x = some (.ins C dx []) ∧ TpAll K H rest (tDs ws) ∧ GoodL ws ∧
  ∀ H', (∀ b o, H b = some o → b ≠ x → H' b = some o) → LineAt K C H' x ws → Q .non H'
theorem ok_init {f f1 f2 C : Addr} {fd fd1 fd2 : FuncData} {k : Nat} (F : Fun K "__init__" "Line.__init__" s_Line_init f fd) (T : LC K mg C) (hM : ∃ t, mg "MOST_WORKS" = some (.int 3 t))
    (G1 : FnOk P w K mg base CX0 k f1 fd1 ["thing"] (spIsWork K)) (kp1 : PySem.W.keepIn K (.ref f1) = true) (b1 : Binds K fd1 ["thing"] []) (g1 : mg "is_work" = some (.ref f1))
    (G2 : FnOk P w K mg base CX0 k f2 fd2 ["works"] (spBarsAll K)) (kp2 : PySem.W.keepIn K (.ref f2) = true) (b2 : Binds K fd2 ["works"] []) (g2 : mg "_bars_of_all" = some (.ref f2))
    (m1 : mg "all" = none) (m2 : mg "len" = none) (m3 : mg "max" = none) : FnR P w K mg base CX0 (k + 1) f (spInit K C) := by
  obtain ⟨tM, nM⟩ := hM
  obtain ⟨oc, od, kV, doc, pm, an, cdv, ct, osl, rfl, lk, hcd⟩ := F.ex
  have R := fn_star (CX := CX0) (P := P) (w := w) (mg := mg) (base := base) (k := k) (ps := ["self"]) (pv := "works") (sp := fun vs H Q _ => ∃ (x dx p : Addr) (rest : List V) (ws : List (List Int)), vs = [.ref x, .ref p] ∧ H x = some (.ins C dx []) ∧ H p = some (.tup rest) ∧ TpAll K H rest (tDs ws) ∧ GoodL ws ∧
    ∀ H', (∀ b o, H b = some o → b ≠ x → H' b = some o) → LineAt K C H' x ws → Q .non H') lk hcd sc_Line_init cxUp_none (bind_star1 (B := fun us => bindArgs (PySem.W.fnOf "__init__" "Line.__init__" (defArgs s_Line_init) (defBody s_Line_init) (defScope s_Line_init) .none kV doc pm an cdv ct) ⟨us, []⟩) (fun _ => rfl) (fun _ _ _ => rfl)) ?_
  · refine R.imp fun vs H Q E h => ?_
    obtain ⟨x, dx, rest, ws, rfl, hx, hT, hg, q⟩ := h
    have hl := hT.len
    have := hg.few
    rw [List.length_map] at hl
    refine ⟨[.ref x], rest, rfl, rfl, Nat.le_of_lt (small1000 (by omega)), fun p np => ⟨x, dx, p, rest, ws, rfl, same_new np _ _ hx, upd_same, hT.stay (.of (same_new np)), hg, fun H' hk hL => q H' (fun b o e hb => hk b o (same_new np _ _ e) hb) hL⟩⟩
  · intro A outer s H vs Q E hr h
    obtain ⟨x, dx, p, rest, ws, rfl, hx, hp, hT, hg, q⟩ := h
    refine ⟨_, pss_cons (ps_if (PW.pt (pw_or (pt_not (pt_truth (pv 1) (fun _ => rfl))) (pw_or1 (pt_not (pt_val (pe_callB (cr_all rfl) (by rfl) m1 (by decide +kernel) (pa_cons
        (pe_lc (own := [("work", 2)]) (g := gName 2) (tt := tYes) rfl sc_Line_init.nd (pi_tup (pv 1)) (blkOk_by (N := ["self", "works", "work", "row", "pair", "bar"]) (sc := defScope s_Line_init) (by decide +kernel))
          (fun _ _ _ _ _ => pg_name (i := 2) sc_Line_init.nd rfl (Or.inl rfl)) (fun _ _ _ _ _ => pts_nil)
          (fun _ _ _ _ _ => pe_call G1 hr (by rfl) g1 kp1 b1 .nil pass0 (pa_cons (pv 2) pa_nil))) pa_nil))))))) (pss_one ps_never) pss_nil)
      (pss_cons (ps_if (pt_cmpR op_gt (pe_callB call_len_seq (by rfl) m2 PySem.boot_len (pa_cons (pv 1) pa_nil)) (pe_glob (v := .int 3) (by rfl) nM ⟨_, rfl⟩) (nomark _)) (pss_one ps_never) pss_nil)
      (pss_cons (ps_fld (pv 0) (pv 1) rfl)
      (pss_cons (ps_fld (pv 0) (pe_call G2 hr (by rfl) g2 kp2 b2 .nil pass0 (pa_cons (pv 1) pa_nil)) rfl)
      (pss_one (ps_fld (pv 0) (pe_callBK (cr_maxD rfl hr) (by rfl) m3 (by decide +kernel) (pa_cons (pe_flat (k1 := 3) (k2 := 4) (k3 := 5) (own := [("row", 3), ("pair", 4), ("bar", 5)]) rfl sc_Line_init.nd (pe_fld (pv 0) rfl)
          (blkOk_by (N := ["self", "works", "work", "row", "pair", "bar"]) (sc := defScope s_Line_init) (by decide +kernel)) rfl rfl rfl (fun _ _ => rfl) (fun _ _ => rfl) (fun _ _ => rfl)) pa_nil) (pk_cons pe_int pk_nil)) rfl))))), ?_⟩
    have hl := hT.len
    rw [List.length_map] at hl
    have hp' : SqT K H p rest := .of hp
    have hemp : (!rest.isEmpty) = true := by
      have := hg.least
      cases rest with
      | nil => rw [← hl] at this; exact absurd this (by decide)
      | cons => rfl
    refine ⟨.ref p, rfl, !rest.isEmpty, .inr (.inl ⟨rest, hp', rfl⟩), ?_⟩
    rw [hemp]
    refine iteF ?_
    refine ⟨.ref p, rfl, p, rfl, ⟨_, hp'⟩, fun D hD => ?_⟩
    refine lc_tup (xs := rest) (fun i H' => Same H H' ∧ H' D = some (.lst (((List.replicate i true)).map V.bl))) ⟨same_new hD, upd_same⟩ (fun i H' _ h => Same.tup h.1 hp') (fun i y H' hy h => ?_) (fun H' h => ?_)
    · obtain ⟨w1, c, hw, rfl, hc⟩ := hT.works hy
      refine ⟨rfl, .ref c, rfl, c, w1, rfl, Same.tup h.1 hc, hg.mem hw, fun H2 e2 => ?_⟩
      refine ⟨_, e2 _ _ h.2, ?_, fun b o e => ?_, ?_⟩
      · rw [List.length_map, List.length_replicate]
        have := hg.few
        have := (List.getElem?_eq_some_iff.mp hw).1
        exact small1000 (by omega)
      · rw [upd_ne (ne_of_none e hD)]
        exact e2 _ _ (h.1 _ _ e)
      · rw [upd_same, List.replicate_succ', List.map_append]
        rfl
    · have hall : (List.replicate rest.length true).all id = true := by simp
      refine ⟨D, _, rfl, .of h.2, true, congrArg V.bl hall, iteF ?_⟩
      have hpH : SqT K H' p rest := Same.tup h.1 hp'
      refine ⟨.ref p, rfl, p, rest, rfl, .inr hpH, _, 3, rfl, rfl, _, rfl, ?_⟩
      have c3 : decide ((((rest.length : Nat) : Int)) > 3) = false := decide_eq_false (by have := hg.few; omega)
      rw [c3]
      refine iteF ?_
      have hx1 := h.1 _ _ hx
      refine ⟨.ref p, rfl, .ref x, rfl, x, C, dx, [], rfl, hx1, T.cl, T.nW, (by show 0 < 1000; decide), ?_⟩
      have hW1 : Tp K H' (.ref p) (.tuple (tDs ws)) := .tu hpH (hT.stay (.of h.1))
      have hW2 := hW1.stayT (tu_ins hx1 (o := .ins C dx (putF "_works" (.ref p) [])))
      generalize hH2 : upd H' x (.ins C dx (putF "_works" (.ref p) [])) = H2 at hW2 ⊢
      have hx2 : H2 x = some (.ins C dx (putF "_works" (.ref p) [])) := by rw [← hH2]; exact upd_same
      refine ⟨.ref p, rfl, p, ws, rfl, hW2, hg, fun H3 b e3 hb => ?_⟩
      have hx3 := e3 _ _ hx2
      refine ⟨.ref x, rfl, x, C, dx, _, rfl, hx3, T.cl, T.nB, (by show 1 < 1000; decide), ?_⟩
      have hW4 := (hW2.stay (.of e3)).stayT (tu_ins hx3 (o := .ins C dx (putF "_bars" (.ref b) (putF "_works" (.ref p) []))))
      have hB4 := hb.stayT (tu_ins hx3 (o := .ins C dx (putF "_bars" (.ref b) (putF "_works" (.ref p) []))))
      generalize hH4 : upd H3 x (.ins C dx (putF "_bars" (.ref b) (putF "_works" (.ref p) []))) = H4 at hW4 hB4 ⊢
      have hx4 : H4 x = some (.ins C dx (putF "_bars" (.ref b) (putF "_works" (.ref p) []))) := by rw [← hH4]; exact upd_same
      obtain ⟨b', rows, eb, hbS, hbT⟩ := hB4.toTup
      cases eb
      have lb : (putF "_bars" (.ref b) (putF "_works" (.ref p) [])).lookup ("_bars" : Str) = some (.ref b) := by rw [lookup_putF, if_pos rfl]
      have lenB : ((allB ws ws).map V.int).length ≤ 1000000 := by
        rw [List.length_map]
        have z := allB_len (vs := ws) ws hg.work
        have := hg.few
        have z2 : 60 * ws.length * ws.length ≤ 60 * 3 * 3 := Nat.mul_le_mul (Nat.mul_le_mul (Nat.le_refl _) this) this
        omega
      refine ⟨.ref x, rfl, x, C, dx, _, _, rfl, hx4, T.cl, T.nB, lb, b, rows, _, rfl, hbS, flatR_of hbT, lenB, fun D2 nD2 => ?_⟩
      have s5 : Same H4 (upd H4 D2 (.lst ((allB ws ws).map V.int))) := same_new nD2
      refine ⟨D2, allB ws ws, 0, rfl, rfl, .of upd_same, fun m h0 h1 => ?_⟩
      have hx5 := s5 _ _ hx4
      refine ⟨.ref x, rfl, x, C, dx, _, rfl, hx5, T.cl, T.nR, (by show 2 < 1000; decide), ?_⟩
      have hW6 := (hW4.stay (.of s5)).stayT (tu_ins hx5 (o := .ins C dx (lf p b m)))
      have hB6 := (hB4.stay (.of s5)).stayT (tu_ins hx5 (o := .ins C dx (lf p b m)))
      refine q _ (fun c o e hc => ?_) ⟨dx, p, b, m, upd_same, hW6, hB6, top_of (fun y hy => ?_) h0 h1, hg⟩
      · rw [upd_ne hc]
        refine s5 _ _ ?_
        rw [← hH4, upd_ne hc]
        refine e3 _ _ ?_
        rw [← hH2, upd_ne hc]
        exact h.1 _ _ e
      · obtain ⟨_, _, _, _, z⟩ := mem_allB.mp hy
        exact bar_pos z
end
end Sg
set_option Elab.async false
set_option linter.all false
set_option maxRecDepth 100000
set_option maxHeartbeats 4000000
namespace Sg
open PySem PySem.Spec PyProof.Rows L2 StX
/-! ## a Line is made -/
theorem make_line {K : PySem.W.Frag} {C : Addr} {H1 : Hp} {vs : List V} {ws : List (List Int)} {Q : VK} (hT : TpAll K H1 vs (tDs ws)) (hg : GoodL ws)
    (q : ∀ H' a, Same H1 H' → H1 a = none → LineAt K C H' a ws → Q (.ref a) H') :
    ∀ x dx, H1 x = none → H1 dx = none → dx ≠ x → spInit K C (V.ref x :: vs) (upd (upd H1 dx (.own x)) x (.ins C dx [])) (fun v H2 => v = .non ∧ Q (.ref x) H2) E0 := by
  intro x dx nx ndx ne
  have s0 : Same H1 (upd (upd H1 dx (.own x)) x (.ins C dx [])) := fun b o e => by
    rw [upd_ne (ne_of_none e nx), upd_ne (ne_of_none e ndx)]
    exact e
  exact ⟨x, dx, vs, ws, rfl, upd_same, hT.stay (.of s0), hg, fun H' hk hL => ⟨rfl, q H' x (fun b o e => hk b o (s0 b o e) (ne_of_none e nx)) nx hL⟩⟩
/-- C(*e) -/
theorem pe_makeS {X : Cx} {CX : CXT} {k : Nat} {f C : Addr} {sp : Sp} {E : XK} {x : Str} {e : Expr} {te : TE} {p pos sp_ : Pos} (M : Mk X.K C f) (F : FnR X.prog X.w X.K X.mg X.base CX k f sp) (hr : Room (k + 1) X.A)
    (hg : Gl X x) (hm : X.mg x = some (.ref C)) (hx : Passes CX X E) (he : PE X e te) (hd : (x == ("__debug__" : Str)) = false := by decide) (hst : starEach [.Starred e sp_] X.env = [(true, eval e X.env)] := by rfl) :
    PE X (.Call (.Name x p) [.Starred e sp_] [] pos) (fun σ H Q => te σ H fun y H1 => ∃ a xs, y = V.ref a ∧ (SqT X.K H1 a xs ∨ SqL X.K H1 a xs) ∧
      ∀ z dz, H1 z = none → H1 dz = none → dz ≠ z → sp (V.ref z :: xs) (upd (upd H1 dz (.own z)) z (.ins C dz [])) (fun v H2 => v = .non ∧ Q (.ref z) H2) E) := by
  refine ⟨fun pins s σ H Q I h => wpAny_Call_Name_kw (ld_glob I hg hm ?_ hd)⟩
  refine PySem.W.callWith_S (h₀ := X.base) I.ok.mod.kin M.kp (thn (he.run pins s σ H _ I h) fun v s1 ⟨y, H1, I1, ry, a, xs, ey, hxs, q⟩ => ?_) hst
  subst ey
  obtain rfl : v = Value.ref a := ry
  exact star_any I1 hxs fun us s2 I2 rv => ⟨I2.kIn, run_makeR M F hr hx I2 rv q⟩
theorem GoodL.back {ws : List (List Int)} (h : GoodL ws) : GoodL (ws.map List.reverse) := by
  refine ⟨by rw [List.length_map]; exact h.least, by rw [List.length_map]; exact h.few, fun w hw => ?_⟩
  obtain ⟨v, hv, rfl⟩ := List.mem_map.mp hw
  have i := h.work v hv
  refine ⟨by rw [List.length_reverse]; exact i.pos, by rw [List.length_reverse]; exact i.most, fun x hx => i.items x (List.mem_reverse.mp hx), fun x hx => ?_, fun x hx => ?_⟩
  · have := i.pos
    rw [List.getElem?_reverse (by omega)] at hx
    exact i.last x (by rw [← hx]; congr 1)
  · have := i.pos
    rw [List.length_reverse, List.getElem?_reverse (by omega)] at hx
    exact i.head x (by rw [← hx]; congr 1; omega)
theorem cut_upto (xs : List V) (d : Nat) : cutV xs none (some (d : Int)) = xs.take d := by
  unfold cutV
  rw [HT.sIx_nat, HT.sIx_none, List.drop_zero, Nat.sub_zero]
  rcases Nat.le_total d xs.length with h | h
  · rw [Nat.min_eq_left h]
  · rw [Nat.min_eq_right h, List.take_of_length_le h, List.take_length]
end Sg
set_option Elab.async false
set_option linter.all false
set_option maxRecDepth 100000
set_option maxHeartbeats 4000000
namespace Sg
open PySem PySem.Spec PyProof.Rows L2 StX
/-- what isinstance asks of the class -/
structure LI (K : PySem.W.Frag) (C : Addr) : Prop where
  ha : PySem.W.findIn K (.ref C) "__class__" = some (some (.builtin "object.__class__"))
  hn : PySem.W.specialIn K (.builtin "object.__class__") "__get__" = some (some (.builtin "getset_descriptor.__get__"))
  ht : PySem.W.takesIn K (.builtin "object.__class__") = some true
  hm : PySem.W.mroIn K C (.type "object") = some true
  kit : PySem.W.kitOne K (.ref C) (.ref C) = some true
section
variable {P : Program} {w : World} {K : PySem.W.Frag} {mg : Str → Option Value} {base : Heap}
theorem isLine {C a : Addr} {H : Hp} {ws : List (List Int)} (c : Cls K C) (T : LI K C) (h : LineAt K C H a ws) : TyX K H (.ref a) (.ref C) := by
  obtain ⟨dx, t, b, r, h1, _⟩ := h
  exact .base (.ins h1 c T.ha T.hn T.ht T.hm)
/-! ### line(one, other) -/
def spCall (K : PySem.W.Frag) (C : Addr) : Sp := fun vs H Q _ => ∃ (a : Addr) (ws : List (List Int)) (i j : Nat) (x y : List Int), vs = [.ref a, .int i, .int j] ∧ LineAt K C H a ws ∧ ws[i]? = some x ∧ ws[j]? = some y ∧
  ∀ c, SqT K H c (nV (barsN x y)) → Q (.ref c) H
theorem ok_call {f f1 C : Addr} {fd fd1 : FuncData} {k : Nat} (F : Fun K "__call__" "Line.__call__" s_Line_call f fd) (T : LC K mg C)
    (G1 : FnOk P w K mg base CX0 k f1 fd1 ["line", "thing"] (spReqKind K C)) (kp1 : PySem.W.keepIn K (.ref f1) = true) (b1 : Binds K fd1 ["line", "thing"] []) (g1 : mg "require_kind" = some (.ref f1)) :
    FnOk P w K mg base CX0 (k + 1) f fd ["self", "one", "other"] (spCall K C) := by
  refine F.ok sc_Line_call (fun vs H Q E h => ?_) (fun cdv A outer s H vs Q E hr h => ?_)
  · obtain ⟨a, ws, i, j, x, y, rfl, _⟩ := h; rfl
  · obtain ⟨a, ws, i, j, x, y, rfl, hL, hx, hy, q⟩ := h
    refine ⟨_, pss_cons (ps_expr (pe_call G1 hr (by rfl) g1 kp1 b1 .nil pass0 (pa_cons (pv 0) (pa_cons (pv 1) pa_nil))))
      (pss_cons (ps_expr (pe_call G1 hr (by rfl) g1 kp1 b1 .nil pass0 (pa_cons (pv 0) (pa_cons (pv 2) pa_nil))))
      (pss_one (ps_ret (pe_ix ix_tup (pe_ix ix_tup (pe_fld (pv 0) rfl) (pv 1) (fun _ _ => rfl)) (pv 2) (fun _ _ => rfl))))), ?_⟩
    have hi := (List.getElem?_eq_some_iff.mp hx).1
    have hj := (List.getElem?_eq_some_iff.mp hy).1
    refine ⟨.ref a, rfl, .int i, rfl, a, ws, i, rfl, hL, hi, .ref a, rfl, .int j, rfl, a, ws, j, rfl, hL, hj, ?_⟩
    obtain ⟨dx, t, b, r, h1, h2, h3, h4, h5⟩ := hL
    obtain ⟨b', rows, eb, hS, hT⟩ := h3.toTup
    cases eb
    have lr := hT.len
    rw [List.length_map] at lr
    obtain ⟨ro, hro⟩ : ∃ ro, rows[i]? = some ro := ⟨rows[i]'(by omega), List.getElem?_eq_getElem _⟩
    obtain ⟨d, hd, tr⟩ := hT.at hro
    rw [List.getElem?_map, hx] at hd
    cases hd
    obtain ⟨b2, cells, rfl, hS2, hT2⟩ := tr.toTup
    have lc := hT2.len
    rw [List.length_map] at lc
    obtain ⟨ce, hce⟩ : ∃ ce, cells[j]? = some ce := ⟨cells[j]'(by omega), List.getElem?_eq_getElem _⟩
    obtain ⟨d, hd, tc⟩ := hT2.at hce
    rw [List.getElem?_map, hy] at hd
    cases hd
    obtain ⟨c, rfl, hc⟩ := tc.toInts
    refine ⟨.ref a, rfl, a, C, dx, _, _, rfl, h1, T.cl, T.nB, lf_bars _ _ _, .int i, rfl, b, rows, i, .ref b2, rfl, rfl, hS, atI_nat hro, ?_⟩
    refine ⟨.int j, rfl, b2, cells, j, .ref c, rfl, rfl, hS2, atI_nat hce, q c ?_⟩
    rw [nV_eq]
    exact hc
/-! ### one == other -/
def spEq (K : PySem.W.Frag) (C : Addr) : Sp := fun vs H Q _ => ∃ (a b : Addr) (ws us : List (List Int)), vs = [.ref a, .ref b] ∧ LineAt K C H a ws ∧ LineAt K C H b us ∧ Q (.bl (decide (ws = us))) H
theorem ok_eq {f C : Addr} {fd : FuncData} {k : Nat} (F : Fun K "__eq__" "Line.__eq__" s_Line_eq f fd) (T : LC K mg C) (I : LI K C) (m1 : mg "isinstance" = none) :
    FnOk P w K mg base CX0 (k + 1) f fd ["self", "other"] (spEq K C) := by
  refine F.ok sc_Line_eq (fun vs H Q E h => ?_) (fun cdv A outer s H vs Q E hr h => ?_)
  · obtain ⟨a, b, ws, us, rfl, _⟩ := h; rfl
  · obtain ⟨a, b, ws, us, rfl, hL, hR, q⟩ := h
    have hu := hr.units
    refine ⟨_, pss_one (ps_ret (pe_and (pe_callB call_isi (by rfl) m1 (by decide +kernel) (pa_cons (pv 1) (pa_cons (pe_glob (v := .ref C) (by rfl) T.mgC rfl) pa_nil)))
      (pe_one (pe_cmpR (op_eqD hu) (pe_fld (pv 0) rfl) (pe_fld (pv 1) rfl) (nomark _))))), ?_⟩
    refine ⟨.ref b, rfl, .ref b, .ref C, .ref C, .ref C, true, rfl, .own C, isLine T.cl I hR, I.kit, ?_⟩
    obtain ⟨dx, t, b1, r, h1, h2, h3, h4, h5⟩ := hL
    obtain ⟨dx', t', b1', r', h1', h2', h3', h4', h5'⟩ := hR
    refine ⟨true, rfl, iteT ?_⟩
    refine ⟨.ref a, rfl, a, C, dx, _, _, rfl, h1, T.cl, T.nW, lf_works _ _ _, .ref b, rfl, b, C, dx', _, _, rfl, h1', T.cl, T.nW, lf_works _ _ _, _, _, h2.dp, h2'.dp, shaped_tDs _, shaped_tDs _, ?_⟩
    rw [show PyData.eqv (.tuple (tDs ws)) (.tuple (tDs us)) = decide (ws = us) from by rw [PyData.eqv, eqv_tDs]]
    exact q
end
end Sg
set_option Elab.async false
set_option linter.all false
set_option maxRecDepth 100000
set_option maxHeartbeats 4000000
namespace Sg
open PySem PySem.Spec PyProof.Rows L2 StX
section
variable {P : Program} {w : World} {K : PySem.W.Frag} {mg : Str → Option Value} {base : Heap}
theorem GoodL.plus {ws us : List (List Int)} (h : GoodL ws) (g : GoodL us) (hl : ws.length + us.length ≤ 3) : GoodL (ws ++ us) := by
  refine ⟨by have := h.least; rw [List.length_append]; omega, by rw [List.length_append]; exact hl, fun w hw => ?_⟩
  rcases List.mem_append.mp hw with z | z
  · exact h.work w z
  · exact g.work w z
theorem GoodL.less {ws : List (List Int)} (h : GoodL ws) {i : Nat} (hi : i < ws.length) (h2 : 2 ≤ ws.length) : GoodL (ws.take i ++ ws.drop (i + 1)) := by
  have := h.few
  refine ⟨by rw [List.length_append, List.length_take, List.length_drop]; omega, by rw [List.length_append, List.length_take, List.length_drop]; omega, fun w hw => ?_⟩
  rcases List.mem_append.mp hw with z | z
  · exact h.work w (List.mem_of_mem_take z)
  · exact h.work w (List.mem_of_mem_drop z)
/-! ### one + other -/
def spAdd (K : PySem.W.Frag) (C : Addr) : Sp := fun vs H Q _ => ∃ (a b : Addr) (ws us : List (List Int)), vs = [.ref a, .ref b] ∧ LineAt K C H a ws ∧ LineAt K C H b us ∧ ws.length + us.length ≤ 3 ∧
  ∀ H' x, Same H H' → H x = none → LineAt K C H' x (ws ++ us) → Q (.ref x) H'
theorem ok_add {f f1 C : Addr} {fd : FuncData} {k : Nat} (F : Fun K "__add__" "Line.__add__" s_Line_add f fd) (T : LC K mg C) (I : LI K C) (M : Mk K C f1) (G : FnR P w K mg base CX0 k f1 (spInit K C)) (m1 : mg "isinstance" = none) :
    FnOk P w K mg base CX0 (k + 2) f fd ["self", "other"] (spAdd K C) := by
  refine F.ok sc_Line_add (fun vs H Q E h => ?_) (fun cdv A outer s H vs Q E hr h => ?_)
  · obtain ⟨a, b, ws, us, rfl, _⟩ := h; rfl
  · obtain ⟨a, b, ws, us, rfl, hL, hR, hl, q⟩ := h
    refine ⟨_, pss_cons (ps_if (pt_not (pt_val (pe_callB call_isi (by rfl) m1 (by decide +kernel) (pa_cons (pv 1) (pa_cons (pe_glob (v := .ref C) (by rfl) T.mgC rfl) pa_nil))))) (pss_one ps_never) pss_nil)
      (pss_cons (ps_set (i := 2) sc_Line_add.nd rfl (Or.inl rfl) (pe_op op_catA (pe_fld (pv 0) rfl) (pe_fld (pv 1) rfl)))
      (pss_one (ps_ret (pe_makeS M G hr (by rfl) T.mgC pass0 (pv 2))))), ?_⟩
    refine ⟨.ref b, rfl, .ref b, .ref C, .ref C, .ref C, true, rfl, .own C, isLine T.cl I hR, I.kit, true, rfl, iteF ?_⟩
    obtain ⟨dx, t, b1, r, h1, h2, h3, h4, h5⟩ := id hL
    obtain ⟨dx', t', b1', r', h1', h2', h3', h4', h5'⟩ := id hR
    obtain ⟨_, xs, e, hS, hT⟩ := h2.toTup
    cases e
    obtain ⟨_, ys, e, hS', hT'⟩ := h2'.toTup
    cases e
    have l1 := hT.len
    have l2 := hT'.len
    rw [List.length_map] at l1 l2
    have p1 := h5.least
    have p2 := h5'.least
    refine ⟨.ref a, rfl, a, C, dx, _, _, rfl, h1, T.cl, T.nW, lf_works _ _ _, .ref b, rfl, b, C, dx', _, _, rfl, h1', T.cl, T.nW, lf_works _ _ _, t, t', xs, ys, rfl, rfl, hS, hS', Nat.le_of_lt (small1000 (by omega)),
      (fun z => ?_), (fun _ z => ?_), (fun _ _ p np => ?_)⟩
    · rw [z] at l1; rw [← l1] at p1; exact absurd p1 (by decide)
    · rw [z] at l2; rw [← l2] at p2; exact absurd p2 (by decide)
    · refine ⟨.ref p, rfl, p, xs ++ ys, rfl, .inl (.of upd_same), ?_⟩
      have st : St K H (upd H p (.tup (xs ++ ys))) := .of (same_new np)
      refine make_line (ws := ws ++ us) ?_ (h5.plus h5' hl) (fun H' x e3 nx hLx => ?_)
      · have z := (hT.stay st).add (hT'.stay st)
        rw [← List.map_append] at z
        exact z
      · exact q H' x ((same_new np).trans e3) (Same.free (same_new np) nx) hLx
/-! ### line - kind -/
def spSub (K : PySem.W.Frag) (C : Addr) : Sp := fun vs H Q _ => ∃ (a : Addr) (ws : List (List Int)) (i : Nat), vs = [.ref a, .int i] ∧ LineAt K C H a ws ∧ i < ws.length ∧ 2 ≤ ws.length ∧
  ∀ H' x, Same H H' → H x = none → LineAt K C H' x (ws.take i ++ ws.drop (i + 1)) → Q (.ref x) H'
theorem ok_sub {f f1 f2 C : Addr} {fd fd2 : FuncData} {k : Nat} (F : Fun K "__sub__" "Line.__sub__" s_Line_sub f fd) (T : LC K mg C) (M : Mk K C f1) (G : FnR P w K mg base CX0 k f1 (spInit K C))
    (G2 : FnOk P w K mg base CX0 k f2 fd2 ["line", "thing"] (spReqKind K C)) (kp2 : PySem.W.keepIn K (.ref f2) = true) (b2 : Binds K fd2 ["line", "thing"] []) (g2 : mg "require_kind" = some (.ref f2)) (m1 : mg "len" = none) :
    FnOk P w K mg base CX0 (k + 2) f fd ["self", "other"] (spSub K C) := by
  refine F.ok sc_Line_sub (fun vs H Q E h => ?_) (fun cdv A outer s H vs Q E hr h => ?_)
  · obtain ⟨a, ws, i, rfl, _⟩ := h; rfl
  · obtain ⟨a, ws, i, rfl, hL, hi, h2w, q⟩ := h
    refine ⟨_, pss_cons (ps_expr (pe_call G2 (hr.mono (Nat.le_succ k)) (by rfl) g2 kp2 b2 .nil pass0 (pa_cons (pv 0) (pa_cons (pv 1) pa_nil))))
      (pss_cons (ps_if (pt_cmpR op_eq (pe_callB call_len_seq (by rfl) m1 PySem.boot_len (pa_cons (pe_fld (pv 0) rfl) pa_nil)) pe_int (nomark _)) (pss_one ps_never) pss_nil)
      (pss_cons (ps_set (i := 2) sc_Line_sub.nd rfl (Or.inl rfl) (pe_op op_catA (pe_slice sl_tup (pe_fld (pv 0) rfl) po_none (po_some (pv 1))) (pe_slice sl_tup (pe_fld (pv 0) rfl) (po_some (pe_op op_add (pv 1) pe_int)) po_none)))
      (pss_one (ps_ret (pe_makeS M G hr (by rfl) T.mgC pass0 (pv 2)))))), ?_⟩
    refine ⟨.ref a, rfl, .int i, rfl, a, ws, i, rfl, hL, hi, ?_⟩
    obtain ⟨dx, t, b1, r, h1, h2, h3, h4, h5⟩ := id hL
    obtain ⟨_, xs, e, hS, hT⟩ := h2.toTup
    cases e
    have l1 := hT.len
    rw [List.length_map] at l1
    have few := h5.few
    refine ⟨.ref a, rfl, a, C, dx, _, _, rfl, h1, T.cl, T.nW, lf_works _ _ _, t, xs, rfl, .inr hS, rfl, ?_⟩
    have c1 : decide (V.int ((xs.length : Nat) : Int) = V.int 1) = false := decide_eq_false fun z => by have := V.int.inj z; omega
    rw [c1]
    refine ⟨false, rfl, iteF ?_⟩
    have w1 : ¬ (HT.sIx xs.length 0 none = 0 ∧ HT.sIx xs.length xs.length (some (i : Int)) = xs.length) := by
      rintro ⟨_, z⟩
      rw [HT.sIx_nat] at z
      omega
    refine ⟨.ref a, rfl, a, C, dx, _, _, rfl, h1, T.cl, T.nW, lf_works _ _ _, .int i, rfl, i, rfl, t, xs, rfl, hS, w1, fun p np => ?_⟩
    have s1 : Same H (upd H p (.tup (cutV xs none (some (i : Int))))) := same_new np
    have e1 : ((i : Int) + 1) = ((i + 1 : Nat) : Int) := by omega
    have w2 : ¬ (HT.sIx xs.length 0 (some ((i : Int) + 1)) = 0 ∧ HT.sIx xs.length xs.length none = xs.length) := by
      rintro ⟨z, _⟩
      rw [e1, HT.sIx_nat] at z
      omega
    have hp1 : (upd H p (.tup (cutV xs none (some (i : Int))))) p = some (.tup (xs.take i)) := by rw [upd_same, cut_upto]
    generalize hH1 : upd H p (.tup (cutV xs none (some (i : Int)))) = H1 at s1 hp1 ⊢
    refine ⟨.ref a, rfl, a, C, dx, _, _, rfl, s1 _ _ h1, T.cl, T.nW, lf_works _ _ _, .int i, rfl, i, 1, rfl, rfl, (i : Int) + 1, rfl, t, xs, rfl, Same.tup s1 hS, w2, fun p2 np2 => ?_⟩
    have s2 : Same H1 (upd H1 p2 (.tup (cutV xs (some ((i : Int) + 1)) none))) := same_new np2
    have hp2 : (upd H1 p2 (.tup (cutV xs (some ((i : Int) + 1)) none))) p2 = some (.tup (xs.drop (i + 1))) := by rw [upd_same, e1, cut_from]
    generalize hH2 : upd H1 p2 (.tup (cutV xs (some ((i : Int) + 1)) none)) = H2 at s2 hp2 ⊢
    have hp1' := s2 _ _ hp1
    have s12 := s1.trans s2
    have tt : TpAll K H (xs.take i ++ xs.drop (i + 1)) (tDs (ws.take i ++ ws.drop (i + 1))) := by
      have z := (hT.cut i).add (hT.off (i + 1))
      rw [← List.map_take, ← List.map_drop, ← List.map_append] at z
      exact z
    have fin : ∀ (H3 : Hp) (l : Addr), Same H H3 → SqT K H3 l (xs.take i ++ xs.drop (i + 1)) →
        ∃ a' xs', V.ref l = V.ref a' ∧ (SqT K H3 a' xs' ∨ SqL K H3 a' xs') ∧ ∀ z dz, H3 z = none → H3 dz = none → dz ≠ z → spInit K C (V.ref z :: xs') (upd (upd H3 dz (.own z)) z (.ins C dz [])) (fun v H2 => v = .non ∧ Q (.ref z) H2) E0 := by
      intro H3 l e3 hl
      refine ⟨l, _, rfl, .inl hl, make_line (ws := ws.take i ++ ws.drop (i + 1)) (tt.stay (.of e3)) (h5.less hi h2w) fun H' x e4 nx hLx => q H' x (e3.trans e4) (Same.free e3 nx) hLx⟩
    have len2 : (xs.take i).length + (xs.drop (i + 1)).length ≤ sizeLine := by
      rw [List.length_take, List.length_drop]
      exact Nat.le_of_lt (small1000 (by omega))
    refine ⟨p, p2, _, _, rfl, rfl, .of hp1', .of hp2, len2, (fun z => ?_), (fun _ z => ?_), (fun _ _ p3 np3 => ?_)⟩
    · refine ⟨.ref p2, rfl, fin H2 p2 s12 ?_⟩
      rw [z, List.nil_append]
      exact .of hp2
    · refine ⟨.ref p, rfl, fin H2 p s12 ?_⟩
      rw [z, List.append_nil]
      exact .of hp1'
    · exact ⟨.ref p3, rfl, fin _ p3 (s12.trans (same_new np3)) (.of upd_same)⟩
/-! ### -line -/
def spNeg (K : PySem.W.Frag) (C : Addr) : Sp := fun vs H Q _ => ∃ (a : Addr) (ws : List (List Int)), vs = [.ref a] ∧ LineAt K C H a ws ∧
  ∀ H' x, Same H H' → H x = none → LineAt K C H' x (ws.map List.reverse) → Q (.ref x) H'
theorem ok_neg {f f1 C : Addr} {fd : FuncData} {k : Nat} (F : Fun K "__neg__" "Line.__neg__" s_Line_neg f fd) (T : LC K mg C) (M : Mk K C f1) (G : FnR P w K mg base CX0 k f1 (spInit K C)) :
    FnOk P w K mg base CX0 (k + 2) f fd ["self"] (spNeg K C) := by
  refine F.ok sc_Line_neg (fun vs H Q E h => ?_) (fun cdv A outer s H vs Q E hr h => ?_)
  · obtain ⟨a, ws, rfl, _⟩ := h; rfl
  · obtain ⟨a, ws, rfl, hL, q⟩ := h
    refine ⟨_, pss_cons (ps_setLc (i := 1) (own := [("work", 2)]) (g := gName 2) (tt := tYes) rfl sc_Line_neg.nd rfl rfl (sw_true rfl rfl rfl (by decide +kernel)) (pi_tup (pe_fld (pv 0) rfl))
          (blkOk_by (N := ["self", "works", "work"]) (sc := defScope s_Line_neg) (by decide +kernel))
          (fun _ _ _ _ _ => pg_name (i := 2) sc_Line_neg.nd rfl (Or.inl rfl)) (fun _ _ _ _ _ => pts_nil) (fun _ _ _ _ _ => pe_revT (K := K) rfl (pv 2)))
      (pss_one (ps_ret (pe_makeS M G hr (by rfl) T.mgC pass0 (pv 1)))), ?_⟩
    obtain ⟨dx, t, b1, r, h1, h2, h3, h4, h5⟩ := id hL
    obtain ⟨_, xs, e, hS, hT⟩ := h2.toTup
    cases e
    have l1 := hT.len
    rw [List.length_map] at l1
    have few := h5.few
    have lz : (tDs (ws.map List.reverse)).length ≤ 1000 := by rw [List.length_map, List.length_map]; omega
    refine ⟨.ref a, rfl, a, C, dx, _, _, rfl, h1, T.cl, T.nW, lf_works _ _ _, t, rfl, ⟨_, hS⟩, fun D hD => ?_⟩
    refine lc_tup (xs := xs) (fun i H' => Grow K H D (tDs (ws.map List.reverse)) i H') (.zero hD) (fun i H' _ h => Same.tup h.1 hS) (fun i x H' hx h => ?_) (fun H' h => ?_)
    · obtain ⟨o, c1, ho, rfl, hc1⟩ := hT.works hx
      refine ⟨rfl, .ref c1, rfl, c1, _, rfl, Same.tup h.1 hc1, fun p np => ?_⟩
      refine h.next hD lz (same_new np) (d := tD o.reverse) (by rw [List.getElem?_map, List.getElem?_map, ho]; rfl) (.ofInts ?_)
      rw [List.map_reverse]
      exact .of upd_same
    · obtain ⟨e2, acc, g1, g2⟩ := h.done (by rw [List.length_map, List.length_map, l1])
      exact ⟨.ref D, rfl, D, acc, rfl, .inr (.of g1), make_line (ws := ws.map List.reverse) g2 h5.back fun H3 x e3 nx hLx => q H3 x (e2.trans e3) (Same.free e2 nx) hLx⟩
end
end Sg
set_option Elab.async false
set_option linter.all false
set_option maxRecDepth 100000
set_option maxHeartbeats 4000000
namespace Sg
open PySem PySem.Spec PyProof.Rows L2 StX
/-- what a class has under a name: a def that keeps sp -/
structure Has (P : Program) (w : World) (K : PySem.W.Frag) (mg : Str → Option Value) (base : Heap) (k : Nat) (C : Addr) (n : Str) (f : Addr) (fd : FuncData) (ps : List Str) (sp : Sp) : Prop where
  ok : FnOk P w K mg base CX0 k f fd ps sp
  bi : Binds K fd ps []
  at_ : PySem.W.findIn K (.ref C) n = some (some (.ref f))
  fn : PySem.W.isFn K (.ref f) = true
/-- what the operators ask of the class beside their defs -/
structure Ops (K : PySem.W.Frag) (C : Addr) : Prop where
  sf : PySem.W.selfFirst K C = true
  rs : ∃ rc, PySem.W.findIn K (.ref C) "__rsub__" = some rc ∧ (rc = none ∨ ∃ g : Addr, rc = some (.ref g))
  is : ∃ fo, PySem.W.findIn K (.type "int") "__sub__" = some fo
  ir : ∃ ro, PySem.W.findIn K (.type "int") "__rsub__" = some ro
  nsub : PySem.W.subIn K (.type "int") (.ref C) = some false
  ne : PySem.W.findIn K (.ref C) "__ne__" = some (some (.builtin "object.__ne__"))
  ob : PySem.W.subIn K (.ref C) (.type "object") = some true
/-- Line's methods, as they are promised -/
structure Meths (P : Program) (w : World) (K : PySem.W.Frag) (mg : Str → Option Value) (base : Heap) (k : Nat) (C : Addr) : Prop where
  lc : LC K mg C
  li : LI K C
  op : Ops K C
  len : ∃ f fd, Has P w K mg base k C "__len__" f fd ["self"] (spLen K C)
  call : ∃ f fd, Has P w K mg base k C "__call__" f fd ["self", "one", "other"] (spCall K C) ∧ PySem.W.fnIn K f = true
  add : ∃ f fd, Has P w K mg base k C "__add__" f fd ["self", "other"] (spAdd K C)
  sub : ∃ f fd, Has P w K mg base k C "__sub__" f fd ["self", "other"] (spSub K C)
  neg : ∃ f fd, Has P w K mg base k C "__neg__" f fd ["self"] (spNeg K C)
  eq : ∃ f fd, Has P w K mg base k C "__eq__" f fd ["self", "other"] (spEq K C)
  works : ∃ p g fd, PropOf K C "works" p g ∧ FnOk P w K mg base CX0 k g fd ["self"] (getSp C "_works") ∧ Binds K fd ["self"] []
  init : ∃ f, Mk K C f ∧ FnR P w K mg base CX0 k f (spInit K C)
section
variable {X : Cx} {k : Nat} {C : Addr}
theorem Meths.cLen (M : Meths X.prog X.w X.K X.mg X.base k C) (hr : Room (k + 2) X.A) : CallR X (.builtin "len") (fun xs H Q => ∃ a ws, xs = [.ref a] ∧ LineAt X.K C H a ws ∧ Q (.int (ws.length : Nat)) H) := by
  obtain ⟨f, fd, h⟩ := M.len
  intro pins s σ H xs us Q I r q
  obtain ⟨a, ws, rfl, hL, q⟩ := q
  refine call_lenO h.ok (hr.mono (Nat.le_succ _)) h.bi h.at_ h.fn pins s σ H _ us Q I r ⟨a, rfl, hL.ins, a, ws, rfl, hL, ws.length, rfl, ?_, q⟩
  have := hL.good.few
  omega
def tCallL (K : PySem.W.Frag) (C : Addr) (tf : TE) (t : TA) : TE := fun σ H Q => tf σ H fun y H1 => ∃ a, y = V.ref a ∧ t σ H1 fun vs H2 => ∃ ws, ∃ i j : Nat, ∃ x y, vs = [.int i, .int j] ∧ LineAt K C H2 a ws ∧ ws[i]? = some x ∧ ws[j]? = some y ∧
  ∀ c, SqT K H2 c (nV (barsN x y)) → Q (.ref c) H2
theorem Meths.pCall {K : PySem.W.Frag} {fe e : Expr} {es : List Expr} {tf : TE} {t : TA} {pos : Pos} (M : Meths X.prog X.w K X.mg X.base k C) (hK : X.K = K) (hr : Room (k + 2) X.A) (hf : PE X fe tf) (ha : PA X (e :: es) t)
    (ht : eval (.Call fe (e :: es) [] pos) X.env = (do callWith pos (← eval fe X.env) [] (backTo pos (starEach (e :: es) X.env)) (backToKw pos (keywordEach [] X.env))) := by rfl)
    (he : starEach (e :: es) X.env = (false, eval e X.env) :: starEach es X.env := by rfl) (hpl : (backTo pos (starEach es X.env)).any (·.1) = false := by rfl) :
    PE X (.Call fe (e :: es) [] pos) (tCallL K C tf t) := by
  subst hK
  obtain ⟨g, fd, h, hg⟩ := M.call
  have c : CallO X.K C g := ⟨h.at_, h.fn, hg⟩
  refine ⟨fun pins s σ H Q I h' => Call_ (thn (hf.run pins s σ H _ I h') fun u s1 ⟨y, H1, I1, ry, a, ey, q⟩ => ?_) ht⟩
  subst ey
  obtain rfl : u = Value.ref a := ry
  refine callO_with (thn (ha.run pos pins s1 σ H1 _ I1 q) fun us s2 ⟨vs, H2, I2, r, ws, i, j, x, y, ev, hL, hx, hy, q2⟩ => ?_) he hpl
  subst ev
  have hi' : InsC X H2 a C := .inr hL.ins
  obtain ⟨ox, od, J, hd⟩ := insC_at I2 hi'
  exact ⟨⟨C, ox, od, J, hd⟩, run_callO c (fnR_of h.ok h.bi) (hr.mono (Nat.le_add_right _ _)) pass0 I2 hi' r ⟨a, ws, i, j, x, y, rfl, hL, hx, hy, q2⟩⟩
end
end Sg
set_option Elab.async false
set_option linter.all false
set_option maxRecDepth 100000
set_option maxHeartbeats 4000000
set_option Elab.async false
set_option linter.all false
set_option maxRecDepth 100000
set_option maxHeartbeats 4000000
namespace Sg
open PySem PySem.Spec PyProof.Rows L2 StX
/-- a whole number as it is written -/
def num (i : Int) : Str := toString i
def word (n : Nat) : Str := (("Line(" : Str) ++ num n) ++ (" works)" : Str)
section
variable {P : Program} {w : World} {K : PySem.W.Frag} {mg : Str → Option Value} {base : Heap}
/-! ### line[kind] -/
def spItem (K : PySem.W.Frag) (C : Addr) : Sp := fun vs H Q _ => ∃ (a : Addr) (ws : List (List Int)) (i : Nat) (x : List Int), vs = [.ref a, .int i] ∧ LineAt K C H a ws ∧ ws[i]? = some x ∧ ∀ c, SqT K H c (x.map V.int) → Q (.ref c) H
theorem ok_item {f f1 C : Addr} {fd fd1 : FuncData} {k : Nat} (F : Fun K "__getitem__" "Line.__getitem__" s_Line_getitem f fd) (T : LC K mg C)
    (G1 : FnOk P w K mg base CX0 k f1 fd1 ["line", "thing"] (spReqKind K C)) (kp1 : PySem.W.keepIn K (.ref f1) = true) (b1 : Binds K fd1 ["line", "thing"] []) (g1 : mg "require_kind" = some (.ref f1)) :
    FnOk P w K mg base CX0 (k + 1) f fd ["self", "at"] (spItem K C) := by
  refine F.ok sc_Line_getitem (fun vs H Q E h => ?_) (fun cdv A outer s H vs Q E hr h => ?_)
  · obtain ⟨a, ws, i, x, rfl, _⟩ := h; rfl
  · obtain ⟨a, ws, i, x, rfl, hL, hx, q⟩ := h
    refine ⟨_, pss_cons (ps_expr (pe_call G1 hr (by rfl) g1 kp1 b1 .nil pass0 (pa_cons (pv 0) (pa_cons (pv 1) pa_nil))))
      (pss_one (ps_ret (pe_ix ix_tup (pe_fld (pv 0) rfl) (pv 1) (fun _ _ => rfl)))), ?_⟩
    have hi := (List.getElem?_eq_some_iff.mp hx).1
    refine ⟨.ref a, rfl, .int i, rfl, a, ws, i, rfl, hL, hi, ?_⟩
    obtain ⟨dx, t, b, r, h1, h2, h3, h4, h5⟩ := hL
    obtain ⟨_, xs, e, hS, hT⟩ := h2.toTup
    cases e
    have l := hT.len
    rw [List.length_map] at l
    obtain ⟨y, hy⟩ : ∃ y, xs[i]? = some y := ⟨xs[i]'(by omega), List.getElem?_eq_getElem _⟩
    obtain ⟨x', c, hx', rfl, hc⟩ := hT.works hy
    obtain rfl : x = x' := Option.some.inj (hx.symm.trans hx')
    exact ⟨.ref a, rfl, a, C, dx, _, _, rfl, h1, T.cl, T.nW, lf_works _ _ _, .int i, rfl, t, xs, i, .ref c, rfl, rfl, hS, atI_nat hy, q c hc⟩
/-! ### repr -/
def spRepr (K : PySem.W.Frag) (C : Addr) : Sp := fun vs H Q _ => ∃ (a : Addr) (ws : List (List Int)), vs = [.ref a] ∧ LineAt K C H a ws ∧ Q (.str (word ws.length)) H
theorem word_join (n : Nat) (h1 : 1 ≤ n) (h2 : n ≤ 3) : ((Str.empty ++ ("Line(" : Str)) ++ num n) ++ (" works)" : Str) = word n := by
  have : n = 1 ∨ n = 2 ∨ n = 3 := by omega
  rcases this with rfl | rfl | rfl <;> decide +kernel
theorem num_len (n : Nat) (h1 : 1 ≤ n) (h2 : n ≤ 3) : ((Str.empty ++ ("Line(" : Str)) ++ num n).length ≤ 100 ∧ (((Str.empty ++ ("Line(" : Str)) ++ num n) ++ (" works)" : Str)).length ≤ 100 := by
  have : n = 1 ∨ n = 2 ∨ n = 3 := by omega
  rcases this with rfl | rfl | rfl <;> decide +kernel
theorem log_small (n : Nat) (h2 : n ≤ 3) : ((n : Int)).natAbs.log2 < 1920 := by
  have : n = 0 ∨ n = 1 ∨ n = 2 ∨ n = 3 := by omega
  rcases this with rfl | rfl | rfl | rfl <;> decide +kernel
theorem ok_repr {f C : Addr} {fd : FuncData} {k : Nat} (F : Fun K "__repr__" "Line.__repr__" s_Line_repr f fd) (T : LC K mg C) (m1 : mg "len" = none) :
    FnOk P w K mg base CX0 (k + 1) f fd ["self"] (spRepr K C) := by
  refine F.ok sc_Line_repr (fun vs H Q E h => ?_) (fun cdv A outer s H vs Q E hr h => ?_)
  · obtain ⟨a, ws, rfl, _⟩ := h; rfl
  · obtain ⟨a, ws, rfl, ⟨dx, t, b, r, h1, h2, h3, h4, h5⟩, q⟩ := h
    refine ⟨_, pss_one (ps_ret (pe_joined (.cons pe_str (.cons (pe_fmt (pe_callB call_len_seq (by rfl) m1 PySem.boot_len (pa_cons (pe_fld (pv 0) rfl) pa_nil))) (.cons pe_str .nil))))), ?_⟩
    obtain ⟨t', xs, e, hS, hT⟩ := h2.toTup
    cases e
    have l := hT.len
    rw [List.length_map] at l
    have big : 100 ≤ sizeLine := by rw [sizeLine_eq]; decide
    obtain ⟨z1, z2⟩ := num_len ws.length h5.least h5.few
    refine ⟨_, rfl, Nat.le_trans (by decide +kernel) big, ?_⟩
    refine ⟨.ref a, rfl, a, C, dx, _, _, rfl, h1, T.cl, T.nW, lf_works _ _ _, t, xs, rfl, .inr hS, ?_⟩
    rw [l]
    refine .inr ⟨((ws.length : Nat) : Int), rfl, log_small _ h5.few, ?_⟩
    refine ⟨_, rfl, Nat.le_trans z1 big, ?_⟩
    refine ⟨_, rfl, Nat.le_trans z2 big, ?_⟩
    have e := word_join ws.length h5.least h5.few
    show Q (.str (((Str.empty ++ ("Line(" : Str)) ++ num ws.length) ++ (" works)" : Str))) H
    rw [e]
    exact q
end
/-- the two more -/
structure Meths2 (P : Program) (w : World) (K : PySem.W.Frag) (mg : Str → Option Value) (base : Heap) (k : Nat) (C : Addr) : Prop where
  m : Meths P w K mg base k C
  item : ∃ f fd, Has P w K mg base k C "__getitem__" f fd ["self", "at"] (spItem K C) ∧ PySem.W.fnIn K f = true
  rep : ∃ f fd, Has P w K mg base k C "__repr__" f fd ["self"] (spRepr K C)
end Sg
set_option Elab.async false
set_option linter.all false
set_option maxRecDepth 100000
set_option maxHeartbeats 4000000
namespace Sg
open PySem PySem.Spec PyProof.Rows L2 StX
theorem cLenK {X : Cx} {K : PySem.W.Frag} {k : Nat} {C : Addr} (M : Meths X.prog X.w K X.mg X.base k C) (hK : X.K = K) (hr : Room (k + 2) X.A) : CallR X (.builtin "len") (fun xs H Q => ∃ a ws, xs = [.ref a] ∧ LineAt K C H a ws ∧ Q (.int (ws.length : Nat)) H) := by
  subst hK
  exact M.cLen hr
/-- a lap of a line of n works -/
structure GoodLap (n : Nat) (lp : List Int) : Prop where
  pos : 1 ≤ lp.length
  most : lp.length ≤ 900
  items : ∀ x ∈ lp, -1 ≤ x ∧ x < n
end Sg
set_option Elab.async false
set_option linter.all false
set_option maxRecDepth 100000
set_option maxHeartbeats 4000000
namespace Sg
open PySem PySem.Spec PyProof.Rows L2 StX
abbrev wk (ws : List (List Int)) (k : Nat) : List Int := ws.getD k []
theorem ix_tupK {X : Cx} {K : PySem.W.Frag} (hK : X.K = K) : IxR X (rIxT K) := by subst hK; exact ix_tup
theorem call_lenK {X : Cx} {K : PySem.W.Frag} (hK : X.K = K) : CallR X (.builtin "len") (fun xs H Q => ∃ p ys, xs = [.ref p] ∧ (SqL K H p ys ∨ SqT K H p ys) ∧ Q (.int ys.length) H) := by
  subst hK
  exact call_len_seq
/-- a walk, whatever is done in its turns -/
theorem it_any {J : It} {n : Nat} {G : Hp → Prop} {Y : Nat → Hp → V → Hp → Prop} (wk : Walk J n G Y) {g : TG} {σ0 : L2.St} {H0 : Hp} {Qd : Hp → Prop} (B : (Hp → Prop) → L2.St → Hp → Prop) (Pv : Nat → Hp → Prop) (h0 : Pv 0 H0) (hG : ∀ i H, i ≤ n → Pv i H → G H)
    (hs : ∀ i x H H', i < n → Pv i H → Y i H x H' → g x σ0 H' (B (Pv (i + 1)))) (hd : ∀ H, Pv n H → Qd H) :
    ∃ W : Nat → Nat → Hp → Prop, (∃ m, W 0 m H0) ∧ ∀ i m H, W i m H → (J.stop i H ∧ Qd H) ∨ (J.go i H ∧ ∃ Nx : Hp → Prop, (∀ H', Nx H' → ∃ m', m' < m ∧ W (i + 1) m' H') ∧ ∀ x H', J.yld i H x H' → g x σ0 H' (B Nx)) := by
  refine ⟨fun i m H => m = n - i ∧ i ≤ n ∧ Pv i H, ⟨n, by simp, Nat.zero_le _, h0⟩, ?_⟩
  rintro i m H ⟨rfl, hi, hp⟩
  have hg := hG i H hi hp
  rcases Nat.lt_or_eq_of_le hi with hlt | rfl
  · exact .inr ⟨wk.goes i H hlt hg, Pv (i + 1), fun H' p' => ⟨n - (i + 1), by omega, rfl, hlt, p'⟩, fun x H' y => hs i x H H' hlt hp (wk.yields i H x H' hlt hg y)⟩
  · exact .inl ⟨wk.stops H hg, hd H hp⟩
/-- what is started in a tick of a lap clashes with a piece behind it -/
def clashL (ws : List (List Int)) (lp : List Int) (t : Nat) : Prop :=
  ∃ kd : Nat, lp[t]? = some ((kd : Nat) : Int) ∧ ∃ o d : Nat, o < ws.length ∧ d ∈ barsN (wk ws kd) (wk ws o) ∧ lp[(t + d) % lp.length]? = some ((o : Nat) : Int)
section
variable {P : Program} {w : World} {K : PySem.W.Frag} {mg : Str → Option Value} {base : Heap}
def spClashL (K : PySem.W.Frag) (C : Addr) : Sp := fun vs H Q _ => ∃ (a b : Addr) (t : Nat) (ws : List (List Int)) (lp : List Int), vs = [.ref a, .ref b, .int t] ∧ LineAt K C H a ws ∧ SqT K H b (lp.map V.int) ∧ GoodLap ws.length lp ∧ t < lp.length ∧
  ∀ H' r, Same H H' → (r = true ↔ clashL ws lp t) → Q (.bl r) H'
abbrev clashN : List Str := ["line", "lap", "tick", "kind", "other", "bar"]
theorem ok_clashes {f C : Addr} {fd : FuncData} {k : Nat} (F : Fun K "_clashes" "_clashes" s_clashes f fd) (M : Meths2 P w K mg base k C) (hN : ∃ t, mg "NOTHING" = some (.int (-1) t)) (m1 : mg "any" = none) (m2 : mg "range" = none) (m3 : mg "len" = none) :
    FnOk P w K mg base CX0 (k + 3) f fd ["line", "lap", "tick"] (spClashL K C) := by
  obtain ⟨tN, nN⟩ := hN
  refine F.ok sc_clashes (fun vs H Q E h => ?_) (fun cdv A outer s H vs Q E hr h => ?_)
  · obtain ⟨a, b, t, ws, lp, rfl, _⟩ := h; rfl
  · obtain ⟨a, b, t, ws, lp, rfl, hL, hS, hg, ht, q⟩ := h
    refine ⟨_, pss_cons (ps_set (i := 3) sc_clashes.nd rfl (.inr rfl) (pe_ix ix_tup (pv 1) (pv 2) (fun _ _ => rfl)))
      (pss_cons (ps_if (pt_cmpR op_eq (pv 3) (pe_glob (v := .int (-1)) (by rfl) nN ⟨_, rfl⟩) (nomark _)) (pss_one (ps_ret pe_bl)) pss_nil)
      (pss_one (ps_ret (pe_callB (cr_any rfl) (by rfl) m1 (by decide +kernel) (pa_cons
        (pe_lc2 (own := [("other", 4), ("bar", 5)]) (vs1 := [5]) (g := gName 4) (g1 := gName 5) (tt := tYes) (tt1 := tYes) rfl sc_clashes.nd (pi_range1 (by rfl) m2 (pa_cons (pe_callB (M.m.cLen hr) (by rfl) m3 PySem.boot_len (pa_cons (pv 0) pa_nil)) pa_nil))
          (blkOk_by (N := clashN) (sc := defScope s_clashes) (by decide +kernel)) (by decide)
          (fun _ _ _ _ _ => pg_name (i := 4) sc_clashes.nd rfl (Or.inl rfl)) (fun _ _ _ _ _ => pts_nil)
          (fun _ _ _ _ _ => pi_tupK (K := K) rfl (M.m.pCall (K := K) rfl hr (pv 0) (pa_cons (pv 3) (pa_cons (pv 4) pa_nil))))
          (fun _ _ _ _ _ => pg_name (i := 5) sc_clashes.nd rfl (Or.inl rfl)) (fun _ _ _ _ _ => pts_nil)
          (fun _ _ _ _ _ => pe_cmpR op_eq (pe_ix (ix_tupK (K := K) rfl) (pv 1) (pe_op op_mod (pe_op op_add (pv 2) (pv 5)) (pe_callB (call_lenK (K := K) rfl) (by rfl) m3 PySem.boot_len (pa_cons (pv 1) pa_nil))) (fun _ _ => rfl)) (pv 4) (nomark _))) pa_nil))))), ?_⟩
    have ll : (lp.map V.int).length = lp.length := List.length_map _
    have few := hL.good.few
    obtain ⟨z, hz⟩ : ∃ z, lp[t]? = some z := ⟨lp[t], List.getElem?_eq_getElem ht⟩
    have atx : ∀ {j : Nat} {y : Int}, lp[j]? = some y → atI (lp.map V.int) ((j : Nat) : Int) = some (.int y) := fun {j y} h => atI_nat (by rw [List.getElem?_map, h]; rfl)
    refine ⟨.ref b, rfl, .int (t : Nat), rfl, b, _, (t : Nat), .int z, rfl, rfl, hS, atx hz, .int z, rfl, rfl, _, rfl, ite2 (fun e => ?_) (fun e => ?_)⟩
    · have ez : z = -1 := V.int.inj (of_decide_eq_true e)
      refine q H false (fun _ _ y => y) ⟨fun y => (nomatch y), fun ⟨kd, h1, _⟩ => ?_⟩
      rw [hz, ez] at h1
      have := Option.some.inj h1
      omega
    · have ez : z ≠ -1 := fun y => e (by rw [y]; exact decide_eq_true rfl)
      obtain ⟨z1, z2⟩ := hg.items z (List.mem_of_getElem? hz)
      obtain ⟨kd, rfl⟩ : ∃ kd : Nat, z = kd := ⟨z.toNat, by omega⟩
      have hk : kd < ws.length := by omega
      obtain ⟨x1, hx1⟩ : ∃ x, ws[kd]? = some x := ⟨ws[kd], List.getElem?_eq_getElem hk⟩
      have ex1 : wk ws kd = x1 := by unfold wk; rw [List.getD_eq_getElem?_getD, hx1]; rfl
      have lx1 := (hL.good.work x1 (List.mem_of_getElem? hx1)).most
      have lbars : ∀ y : List Int, (barsN x1 y).length ≤ 59 := fun y => by
        have := barsTo_len x1 y (x1.length - 1)
        exact Nat.le_trans this (by omega)
      refine ⟨.ref a, rfl, a, ws, rfl, hL, _, rfl, by omega, by omega, fun D hD => ?_⟩
      refine it_any (walk_range (lo := 0) (n := ((ws.length : Nat) : Int).toNat)) _ (fun i H' => Same H H' ∧ ∃ bs : List Bool, H' D = some (.lst (bs.map V.bl)) ∧ bs.length ≤ 60 * i ∧
          (bs.any id = true ↔ ∃ o d : Nat, o < i ∧ d ∈ barsN (wk ws kd) (wk ws o) ∧ lp[(t + d) % lp.length]? = some ((o : Nat) : Int)))
        ⟨same_new hD, [], upd_same, Nat.zero_le _, (fun y => (nomatch y)), fun ⟨o, d, y, _⟩ => absurd y (Nat.not_lt_zero _)⟩ (fun _ _ _ _ => trivial) (fun i x H1 H' hi h hY => ?_) (fun H' h => ?_)
      · obtain ⟨e1, bs, hD1, lb, hbs⟩ := h
        obtain ⟨rfl, rfl⟩ := hY
        have hiw : i < ws.length := by omega
        obtain ⟨x2, hx2⟩ : ∃ x, ws[i]? = some x := ⟨ws[i], List.getElem?_eq_getElem hiw⟩
        have ex2 : wk ws i = x2 := by unfold wk; rw [List.getD_eq_getElem?_getD, hx2]; rfl
        refine ⟨rfl, .ref a, rfl, a, rfl, .int (kd : Nat), rfl, .int (0 + i), rfl, ws, kd, i, x1, x2, by rw [Int.zero_add], hL.stay (.of e1), hx1, hx2, fun c hc => ⟨c, rfl, ⟨_, hc⟩, ?_⟩⟩
        refine it_any (walk_tup (K := K) (a := c) (xs := nV (barsN x1 x2))) _ (fun j H' => Same H H' ∧ SqT K H' c (nV (barsN x1 x2)) ∧ ∃ bs : List Bool, H' D = some (.lst (bs.map V.bl)) ∧ bs.length ≤ 60 * i + j ∧
            (bs.any id = true ↔ (∃ o d : Nat, o < i ∧ d ∈ barsN (wk ws kd) (wk ws o) ∧ lp[(t + d) % lp.length]? = some ((o : Nat) : Int)) ∨ ∃ d ∈ (barsN x1 x2).take j, lp[(t + d) % lp.length]? = some ((i : Nat) : Int)))
          ⟨e1, hc, bs, hD1, by omega, by rw [hbs]; exact ⟨.inl, fun y => y.elim id fun ⟨_, y, _⟩ => absurd y (by simp)⟩⟩ (fun j H' _ h => h.2.1) (fun j x H2 H' hj h hY => ?_) (fun H' h => ?_)
        · obtain ⟨e2, hc2, bs2, hD2, lb2, hbs2⟩ := h
          obtain ⟨rfl, hx⟩ := hY
          rw [List.getElem?_map] at hx
          obtain ⟨d, hd, rfl⟩ := Option.map_eq_some_iff.mp hx
          have hjb := (List.getElem?_eq_some_iff.mp hd).1
          have lbx := lbars x2
          have hm : (t + d) % lp.length < lp.length := Nat.mod_lt _ (by omega)
          obtain ⟨y, hy⟩ : ∃ y, lp[(t + d) % lp.length]? = some y := ⟨_, List.getElem?_eq_getElem hm⟩
          have em : (((t : Nat) : Int) + (d : Nat)) % (((lp.map V.int).length : Nat) : Int) = (((t + d) % lp.length : Nat) : Int) := by rw [ll]; first | rfl | exact (Int.natCast_emod (t + d) lp.length).symm | exact (Int.ofNat_emod (t + d) lp.length).symm
          have hS2 := Same.tup e2 hS
          refine ⟨rfl, .ref b, rfl, .int (t : Nat), rfl, .int (d : Nat), rfl, (t : Nat), (d : Nat), rfl, rfl, .ref b, rfl, b, _, rfl, .inr hS2, _, _, rfl, rfl, by omega, b, _, _, .int y, rfl, rfl, hS2, ?_, .int (0 + i), rfl, rfl, ?_⟩
          · rw [em]
            exact atx hy
          · refine ⟨_, hD2, ?_, fun u o e => ?_, tup_upd hD2 (fun _ z => nomatch z) (fun _ _ z => nomatch z) hc2, bs2 ++ [decide (V.int y = V.int (0 + (i : Nat)))], ?_, ?_, ?_⟩
            · rw [List.length_map]
              exact small1000 (by omega)
            · rw [upd_ne (ne_of_none e hD)]
              exact e2 _ _ e
            · rw [upd_same, List.map_append]
              rfl
            · rw [List.length_append]
              show bs2.length + 1 ≤ _
              omega
            · rw [List.any_append, Bool.or_eq_true, hbs2, List.take_add_one, hd]
              have one : ([decide (V.int y = V.int (0 + (i : Nat)))].any id = true) ↔ lp[(t + d) % lp.length]? = some ((i : Nat) : Int) := by
                rw [hy, List.any_cons, List.any_nil, Bool.or_false]
                show decide _ = true ↔ _
                rw [decide_eq_true_eq, Int.zero_add]
                exact ⟨fun u => by rw [V.int.inj u], fun u => by rw [Option.some.inj u]⟩
              rw [one]
              constructor
              · rintro ((u | ⟨d', hd', g⟩) | u)
                · exact .inl u
                · exact .inr ⟨d', List.mem_append_left _ hd', g⟩
                · exact .inr ⟨d, List.mem_append_right _ (List.mem_singleton.mpr rfl), u⟩
              · rintro (u | ⟨d', hd', g⟩)
                · exact .inl (.inl u)
                · rcases List.mem_append.mp hd' with u | u
                  · exact .inl (.inr ⟨d', u, g⟩)
                  · rw [List.mem_singleton.mp u] at g
                    exact .inr g
        · obtain ⟨e2, _, bs2, hD2, lb2, hbs2⟩ := h
          have ln : (nV (barsN x1 x2)).length = (barsN x1 x2).length := List.length_map _
          rw [ln] at lb2
          rw [ln, List.take_length] at hbs2
          have lbx := lbars x2
          refine ⟨e2, bs2, hD2, by omega, ?_⟩
          rw [hbs2]
          constructor
          · rintro (⟨o, d, u, v⟩ | ⟨d, u, v⟩)
            · exact ⟨o, d, by omega, v⟩
            · exact ⟨i, d, by omega, by rw [ex1, ex2]; exact u, v⟩
          · rintro ⟨o, d, u, v1, v2⟩
            by_cases ho : o < i
            · exact .inl ⟨o, d, ho, v1, v2⟩
            · have : o = i := by omega
              subst this
              rw [ex1, ex2] at v1
              exact .inr ⟨d, v1, v2⟩
      · obtain ⟨e2, bs2, hD2, lb2, hbs2⟩ := h
        refine ⟨D, _, rfl, .of hD2, q H' _ e2 ?_⟩
        rw [hbs2]
        constructor
        · rintro ⟨o, d, u, v⟩
          exact ⟨kd, hz, o, d, by omega, v⟩
        · rintro ⟨kd', h1, o, d, u, v⟩
          have : kd = kd' := by
            rw [hz] at h1
            have := Option.some.inj h1
            omega
          subst this
          exact ⟨o, d, by omega, v⟩
end
end Sg
set_option Elab.async false
set_option linter.all false
set_option maxRecDepth 100000
set_option maxHeartbeats 4000000
namespace Sg
open PySem PySem.Spec PyProof.Rows L2 StX
structure GoodWt (n : Nat) (wt : List Int) : Prop where
  len : wt.length = n
  items : ∀ x ∈ wt, 0 ≤ x ∧ x ≤ 20
  some_ : 0 < wt.sum
/-- what a choice is worth -/
def worthN (wt : List Int) (c : Int) : Int := if c = -1 then 0 else wt.getD c.toNat 0
def gainN (wt lp : List Int) : Int := (lp.map (worthN wt)).sum
def fracL (a b : Int) : List Int := [a / (Nat.gcd a.natAbs b.natAbs : Nat), b / (Nat.gcd a.natAbs b.natAbs : Nat)]
theorem all_ints : ∀ {ds : List PyData} {l m : Int}, (∀ d ∈ ds, betD d l m = true) → ∃ ns : List Int, ds = iD ns ∧ ∀ x ∈ ns, l ≤ x ∧ x ≤ m
  | [], _, _, _ => ⟨[], rfl, fun _ h => nomatch h⟩
  | d :: ds, l, m, h => by
    obtain ⟨ns, rfl, hn⟩ := all_ints (ds := ds) (l := l) (m := m) fun x hx => h x (List.mem_cons_of_mem _ hx)
    have h1 := h d List.mem_cons_self
    obtain ⟨i, rfl⟩ : ∃ i, d = .int i := by cases d <;> first | exact ⟨_, rfl⟩ | exact nomatch h1
    have h2 : (decide (l ≤ i) && decide (i ≤ m)) = true := h1
    rw [Bool.and_eq_true, decide_eq_true_eq, decide_eq_true_eq] at h2
    exact ⟨i :: ns, rfl, fun x hx => (List.mem_cons.mp hx).elim (fun e => e ▸ h2) (hn x)⟩
theorem ints_bet {ns : List Int} {l m : Int} (h : ∀ x ∈ ns, l ≤ x ∧ x ≤ m) : ∀ d ∈ iD ns, betD d l m = true := fun d hd => by
  obtain ⟨x, hx, rfl⟩ := List.mem_map.mp hd
  show (decide (l ≤ x) && decide (x ≤ m)) = true
  rw [decide_eq_true (h x hx).1, decide_eq_true (h x hx).2]; rfl
theorem dpInts_v {K : PySem.W.Frag} {H : Hp} : ∀ {xs : List V} {ns : List Int}, DpAll K H xs (iD ns) → xs = ns.map V.int
  | [], [], _ => rfl
  | _ :: _, [], h => by cases h
  | [], _ :: _, h => by cases h
  | x :: xs, n :: ns, h => by
    cases h with
    | cons a r =>
      cases a
      rw [dpInts_v (ns := ns) r]; rfl
/-- an exception's class that is raised with a text -/
structure Err (K : PySem.W.Frag) (mg : Str → Option Value) (n : Str) (C : Addr) : Prop where
  g : mg n = some (.ref C)
  x : PySem.W.excIn K C [.type "ValueError", .type "Exception", .type "BaseException", .type "object"] "ValueError.__new__" = true
  k : PySem.W.keepIn K (.ref C) = true
  b : PySem.W.subIn K (.ref C) (.type "BaseException") = some true
  t : PySem.W.typeIn K (.ref C) = some (.type "type")
section
variable {P : Program} {w : World} {K : PySem.W.Frag} {mg : Str → Option Value} {base : Heap}
/-! ### worth_of -/
def spWorth (K : PySem.W.Frag) : Sp := fun vs H Q _ => ∃ (b : Addr) (wt : List Int) (c : Int), vs = [.ref b, .int c] ∧ SqT K H b (wt.map V.int) ∧ -1 ≤ c ∧ c < wt.length ∧ Q (.int (worthN wt c)) H
theorem ok_worth_of {f : Addr} {fd : FuncData} {k : Nat} (F : Fun K "worth_of" "worth_of" s_worth_of f fd) (hN : ∃ t, mg "NOTHING" = some (.int (-1) t)) :
    FnOk P w K mg base CX0 (k + 1) f fd ["worths", "choice"] (spWorth K) := by
  obtain ⟨tN, nN⟩ := hN
  refine F.ok sc_worth_of (fun vs H Q E h => ?_) (fun cdv A outer s H vs Q E hr h => ?_)
  · obtain ⟨b, wt, c, rfl, _⟩ := h; rfl
  · obtain ⟨b, wt, c, rfl, hS, c1, c2, q⟩ := h
    refine ⟨_, pss_one (ps_ret (pe_ifExp (pt_cmpR op_eq (pv 1) (pe_glob (v := .int (-1)) (by rfl) nN ⟨_, rfl⟩) (nomark _)) pe_int (pe_ix ix_tup (pv 0) (pv 1) (fun _ _ => rfl)))), ?_⟩
    refine ⟨.int c, rfl, rfl, _, rfl, ite2 (fun e => ?_) (fun e => ?_)⟩
    · have hc : c = -1 := V.int.inj (of_decide_eq_true e)
      unfold worthN at q
      rw [if_pos hc] at q
      exact q
    · have hc : c ≠ -1 := fun z => e (by rw [z]; exact decide_eq_true rfl)
      unfold worthN at q
      rw [if_neg hc] at q
      obtain ⟨j, rfl⟩ : ∃ j : Nat, c = j := ⟨c.toNat, by omega⟩
      have hj : j < wt.length := by omega
      rw [Int.toNat_natCast, List.getD_eq_getElem?_getD, List.getElem?_eq_getElem hj] at q
      refine ⟨.ref b, rfl, .int (j : Nat), rfl, b, _, (j : Nat), .int wt[j], rfl, rfl, hS, atI_nat ?_, q⟩
      rw [List.getElem?_map, List.getElem?_eq_getElem hj]
      rfl
/-! ### fraction -/
def spFrac : Sp := fun vs H Q _ => ∃ a b : Int, vs = [.int a, .int b] ∧ 0 < b ∧ b ≤ 900 ∧ ∀ p, H p = none → Q (.ref p) (L2.upd H p (.tup [.int (a / (Nat.gcd a.natAbs b.natAbs : Nat)), .int (b / (Nat.gcd a.natAbs b.natAbs : Nat))]))
theorem ok_fraction {f : Addr} {fd : FuncData} {k : Nat} (F : Fun K "fraction" "fraction" s_fraction f fd) (g1 : mg "gcd" = some (.builtin "math.gcd")) :
    FnOk P w K mg base CX0 (k + 1) f fd ["top", "bottom"] spFrac := by
  refine F.ok sc_fraction (fun vs H Q E h => ?_) (fun cdv A outer s H vs Q E hr h => ?_)
  · obtain ⟨a, b, rfl, _⟩ := h; rfl
  · obtain ⟨a, b, rfl, hb, hb2, q⟩ := h
    refine ⟨_, pss_cons (ps_set (i := 2) sc_fraction.nd rfl (.inl rfl) (pe_callBfun cr_gcd (by rfl) g1 (pa_cons (pv 0) (pa_cons (pv 1) pa_nil))))
      (pss_one (ps_ret (pe_tup (pa_cons (pe_op op_fdiv (pv 0) (pv 2)) (pa_cons (pe_op op_fdiv (pv 1) (pv 2)) pa_nil))))), ?_⟩
    have g0 : 0 < Nat.gcd a.natAbs b.natAbs := Nat.gcd_pos_of_pos_right _ (by omega)
    have g2 : Nat.gcd a.natAbs b.natAbs ≤ b.natAbs := Nat.gcd_le_right _ (by omega)
    refine ⟨.int a, rfl, .int b, rfl, a, b, rfl, ?_⟩
    generalize Nat.gcd a.natAbs b.natAbs = g at g0 g2 q ⊢
    exact ⟨.int a, rfl, .int (g : Nat), rfl, a, (g : Nat), rfl, rfl, ⟨by omega, by omega⟩, .int b, rfl, .int (g : Nat), rfl, b, (g : Nat), rfl, rfl, ⟨by omega, by omega⟩, by show 2 ≤ sizeLine; decide, fun p np => q p np⟩
/-! ### require_line, of any value that is plain -/
theorem call_isiLP {X : Cx} {C : Addr} (hK : X.K = K) (hN : NoInst K C) (T : LC K mg C) (I : LI K C) :
    CallR X (.builtin "isinstance") (fun xs H Q => ∃ v, xs = [v, .ref C] ∧ ((∃ a ws, v = .ref a ∧ LineAt K C H a ws ∧ Q (.bl true) H) ∨ (PlainV K H v ∧ Q (.bl false) H))) := by
  subst hK
  intro pins s σ H xs us Q J r h
  obtain ⟨v, rfl, h⟩ := h
  rcases h with ⟨a, ws, rfl, hL, q⟩ | ⟨hp, q⟩
  · exact call_isi pins s σ H _ us Q J r ⟨.ref a, .ref C, .ref C, .ref C, true, rfl, .own C, isLine T.cl I hL, I.kit, q⟩
  · exact call_isiP rfl hN pins s σ H _ us Q J r ⟨v, rfl, hp, q⟩
def spReqLineA (K : PySem.W.Frag) (C Cl : Addr) : Sp := fun vs H Q E => ∃ v, vs = [v] ∧ ((∃ a ws, v = .ref a ∧ LineAt K C H a ws ∧ Q .non H) ∨ (PlainV K H v ∧ E (.ref Cl) none H))
theorem ok_require_lineA {f C Cl : Addr} {fd : FuncData} {k : Nat} (F : Fun K "require_line" "require_line" s_require_line f fd) (R : Err K mg "NoLine" Cl) (hN : NoInst K C) (T : LC K mg C) (I : LI K C) (m1 : mg "isinstance" = none) :
    FnOk P w K mg base (L2.CX P w) (k + 1) f fd ["thing"] (spReqLineA K C Cl) := by
  refine F.okX sc_require_line (fun vs H Q E h => ?_) (fun cdv A outer s H vs Q E hr h => ?_)
  · obtain ⟨v, rfl, _⟩ := h; rfl
  · obtain ⟨v, rfl, h⟩ := h
    refine ⟨_, pss_one (ps_if (pt_not (pt_val (pe_callB (call_isiLP (K := K) rfl hN T I) (by rfl) m1 (by decide +kernel) (pa_cons (pv 0) (pa_cons (pe_glob (v := .ref C) (by rfl) T.mgC rfl) pa_nil)))))
      (pss_one (ps_raise rfl (takes_of rfl rfl rfl rfl) (pmk_own PySem.F.excBase_ValueError R.x R.g R.k (raises_own R.b R.t) rfl))) pss_nil), ?_⟩
    rcases h with ⟨a, ws, rfl, hL, q⟩ | ⟨hp, q⟩
    · exact ⟨.ref a, rfl, .ref a, rfl, .inl ⟨a, ws, rfl, hL, true, rfl, iteF q⟩⟩
    · exact ⟨v, rfl, v, rfl, .inr ⟨hp, false, rfl, iteT q⟩⟩
/-! ### is_lap, of any data -/
def LapD (n : Nat) (d : PyData) : Prop := ∃ lp, d = tD lp ∧ GoodLap n lp
def WtD (n : Nat) (d : PyData) : Prop := ∃ wt, d = tD wt ∧ GoodWt n wt
theorem iD_inj {ns ms : List Int} (e : iD ns = iD ms) : ns = ms := by
  have := congrArg (fun l : List PyData => l.map fun d => match d with | .int i => i | _ => 0) e
  simpa [List.map_map, Function.comp_def] using this
theorem tD_inj {ns ms : List Int} (e : tD ns = tD ms) : ns = ms := iD_inj (PyData.tuple.inj e)
def spIsLapA (K : PySem.W.Frag) (C : Addr) (R : Nat → PyData → Prop) : Sp := fun vs H Q _ => ∃ (a : Addr) (v : V) (ws : List (List Int)) (d : PyData), vs = [.ref a, v] ∧ LineAt K C H a ws ∧ Aq K H v d ∧ d.bulk ≤ 900 ∧ ∀ H' b, Same H H' → (b = true ↔ R ws.length d) → Q (.bl b) H'
theorem ok_is_lapA {f f1 C : Addr} {fd fd1 : FuncData} {k : Nat} (F : Fun K "is_lap" "is_lap" s_is_lap f fd) (M : Meths2 P w K mg base k C) (hN : ∃ t, mg "NOTHING" = some (.int (-1) t))
    (G1 : FnOk P w K mg base CX0 (k + 2) f1 fd1 ["thing", "least", "most"] (spBetA K)) (kp1 : PySem.W.keepIn K (.ref f1) = true) (b1 : Binds K fd1 ["thing", "least", "most"] []) (g1 : mg "is_between" = some (.ref f1))
    (m1 : mg "isinstance" = none) (m2 : mg "tuple" = none) (m3 : mg "len" = none) (m4 : mg "all" = none) : FnOk P w K mg base CX0 (k + 3) f fd ["line", "thing"] (spIsLapA K C LapD) := by
  obtain ⟨tN, nN⟩ := hN
  refine F.ok sc_is_lap (fun vs H Q E h => ?_) (fun cdv A outer s H vs Q E hr h => ?_)
  · obtain ⟨a, v, ws, d, rfl, _⟩ := h; rfl
  · obtain ⟨a, v, ws, d, rfl, hL, hd, hbk, q⟩ := h
    refine ⟨_, pss_cons (ps_if (PW.pt (pw_or (pt_not (pt_val (pe_callB call_isiA (by rfl) m1 (by decide +kernel) (pa_cons (pv 1) (pa_cons (pe_bltn (v := .ty "tuple") (by rfl) m2 (by decide +kernel) rfl) pa_nil)))))
        (pw_or1 (pt_cmpR op_eq (pe_callB call_len_seq (by rfl) m3 PySem.boot_len (pa_cons (pv 1) pa_nil)) pe_int (nomark _))))) (pss_one (ps_ret pe_bl)) pss_nil)
      (pss_one (ps_ret (pe_callB (cr_all rfl) (by rfl) m4 (by decide +kernel) (pa_cons
          (pe_lc (own := [("item", 2)]) (g := gName 2) (tt := tYes) rfl sc_is_lap.nd (pi_tup (pv 1)) (blkOk_by (N := ["line", "thing", "item"]) (sc := defScope s_is_lap) (by decide +kernel))
            (fun _ _ _ _ _ => pg_name (i := 2) sc_is_lap.nd rfl (Or.inl rfl)) (fun _ _ _ _ _ => pts_nil)
            (fun _ _ _ _ _ => pe_call G1 hr (by rfl) g1 kp1 b1 .nil pass0 (pa_cons (pv 2) (pa_cons (pe_glob (v := .int (-1)) (by rfl) nN ⟨_, rfl⟩) (pa_cons (pe_op op_sub (pe_callB (cLenK (K := K) M.m rfl hr) (by rfl) m3 PySem.boot_len (pa_cons (pv 0) pa_nil)) pe_int) pa_nil))))) pa_nil)))), ?_⟩
    refine ⟨v, rfl, v, d, "tuple", rfl, hd, .inl rfl, isB "tuple" d, rfl, ?_⟩
    cases ht : isB "tuple" d with
    | false =>
      refine iteT (q H false (same_refl H) ⟨(fun z => nomatch z), fun ⟨ns, z, _⟩ => ?_⟩)
      rw [z] at ht; exact nomatch ht
    | true =>
      obtain ⟨ds, rfl⟩ := isB_tup.mp ht
      obtain ⟨b, xs, rfl, hS, hA⟩ : ∃ a xs, v = .ref a ∧ SqT K H a xs ∧ DpAll K H xs ds := by
        cases hd with
        | data hd => cases hd with
          | tup h1 h2 => exact ⟨_, _, rfl, h1, h2⟩
      have lx := DpAll.len hA
      have l9 := tup_short hbk
      refine iteF ⟨.ref b, rfl, b, xs, rfl, .inr hS, rfl, _, rfl, ?_⟩
      by_cases c0 : xs.length = 0
      · rw [show decide (V.int ((xs.length : Nat) : Int) = V.int 0) = true from decide_eq_true (by rw [c0]; rfl)]
        refine iteT (q H false (same_refl H) ⟨(fun z => nomatch z), fun ⟨ns, z, g⟩ => ?_⟩)
        have e := PyData.tuple.inj z
        have := g.pos
        rw [e, List.length_map] at lx
        omega
      rw [show decide (V.int ((xs.length : Nat) : Int) = V.int 0) = false from decide_eq_false fun z => c0 (by have := V.int.inj z; omega)]
      refine iteF ⟨.ref b, rfl, b, rfl, ⟨_, hS⟩, fun D hD => ?_⟩
      refine lc_tup (xs := xs) (fun i H' => Same H H' ∧ H' D = some (.lst ((((ds.take i).map fun z => betD z (-1) ((ws.length : Nat) - 1))).map V.bl))) ⟨same_new hD, upd_same⟩ (fun i H' _ h => Same.tup h.1 hS) (fun i x H' hx h => ?_) (fun H' h => ?_)
      · obtain ⟨dd, hdd, hxd⟩ := DpAll.at hA hx
        have hil := (List.getElem?_eq_some_iff.mp hdd).1
        refine ⟨rfl, x, rfl, .ref a, rfl, a, ws, rfl, hL.stay (.of h.1), _, 1, rfl, rfl, x, dd, -1, _, rfl, .data (Dp.same h.1 hxd), ?_⟩
        refine ⟨_, h.2, ?_, fun y o e => ?_, ?_⟩
        · rw [List.length_map, List.length_map, List.length_take]
          exact small1000 (by omega)
        · rw [upd_ne (ne_of_none e hD)]; exact h.1 _ _ e
        · rw [upd_same, List.take_add_one, hdd, List.map_append, List.map_append]; rfl
      · have h2 := h.2
        rw [lx, List.take_length] at h2
        refine ⟨D, _, rfl, .of h2, ?_⟩
        refine q H' _ h.1 ⟨fun hall => ?_, fun ⟨lp, e, g⟩ => ?_⟩
        · rw [List.all_map, List.all_eq_true] at hall
          obtain ⟨ns, rfl, hns⟩ := all_ints hall
          rw [List.length_map] at lx l9
          exact ⟨ns, rfl, by omega, l9, fun x hx => by have := hns x hx; omega⟩
        · rw [List.all_map, List.all_eq_true]
          intro z hz
          rw [PyData.tuple.inj e] at hz
          exact ints_bet (fun x hx => by have := g.items x hx; omega) z hz
/-! ### _is_worths -/
theorem ok_is_worthsA {f f1 C : Addr} {fd fd1 : FuncData} {k : Nat} (F : Fun K "_is_worths" "_is_worths" s_is_worths f fd) (M : Meths2 P w K mg base k C) (hN : ∃ t, mg "MOST_WORTH" = some (.int 20 t))
    (G1 : FnOk P w K mg base CX0 (k + 2) f1 fd1 ["thing", "least", "most"] (spBetA K)) (kp1 : PySem.W.keepIn K (.ref f1) = true) (b1 : Binds K fd1 ["thing", "least", "most"] []) (g1 : mg "is_between" = some (.ref f1))
    (m1 : mg "isinstance" = none) (m2 : mg "tuple" = none) (m3 : mg "len" = none) (m4 : mg "all" = none) (m5 : mg "sum" = none) : FnOk P w K mg base CX0 (k + 3) f fd ["line", "thing"] (spIsLapA K C WtD) := by
  obtain ⟨tN, nN⟩ := hN
  refine F.ok sc_is_worths (fun vs H Q E h => ?_) (fun cdv A outer s H vs Q E hr h => ?_)
  · obtain ⟨a, v, ws, d, rfl, _⟩ := h; rfl
  · obtain ⟨a, v, ws, d, rfl, hL, hd, hbk, q⟩ := h
    refine ⟨_, pss_cons (ps_if (PW.pt (pw_or (pt_not (pt_val (pe_callB call_isiA (by rfl) m1 (by decide +kernel) (pa_cons (pv 1) (pa_cons (pe_bltn (v := .ty "tuple") (by rfl) m2 (by decide +kernel) rfl) pa_nil)))))
        (pw_or1 (pt_cmpR op_ne (pe_callB call_len_seq (by rfl) m3 PySem.boot_len (pa_cons (pv 1) pa_nil)) (pe_callB (cLenK (K := K) M.m rfl hr) (by rfl) m3 PySem.boot_len (pa_cons (pv 0) pa_nil)) (nomark _))))) (pss_one (ps_ret pe_bl)) pss_nil)
      (pss_one (ps_ret (pe_and (pe_callB (cr_all rfl) (by rfl) m4 (by decide +kernel) (pa_cons
          (pe_lc (own := [("worth", 2)]) (g := gName 2) (tt := tYes) rfl sc_is_worths.nd (pi_tup (pv 1)) (blkOk_by (N := ["line", "thing", "worth"]) (sc := defScope s_is_worths) (by decide +kernel))
            (fun _ _ _ _ _ => pg_name (i := 2) sc_is_worths.nd rfl (Or.inl rfl)) (fun _ _ _ _ _ => pts_nil)
            (fun _ _ _ _ _ => pe_call G1 hr (by rfl) g1 kp1 b1 .nil pass0 (pa_cons (pv 2) (pa_cons pe_int (pa_cons (pe_glob (v := .int 20) (by rfl) nN ⟨_, rfl⟩) pa_nil))))) pa_nil))
        (pe_one (pe_cmpR op_gt (pe_callB (cr_sumT rfl) (by rfl) m5 (by decide +kernel) (pa_cons (pv 1) pa_nil)) pe_int (nomark _)))))), ?_⟩
    refine ⟨v, rfl, v, d, "tuple", rfl, hd, .inl rfl, isB "tuple" d, rfl, ?_⟩
    cases ht : isB "tuple" d with
    | false =>
      refine iteT (q H false (same_refl H) ⟨(fun z => nomatch z), fun ⟨ns, z, _⟩ => ?_⟩)
      rw [z] at ht; exact nomatch ht
    | true =>
      obtain ⟨ds, rfl⟩ := isB_tup.mp ht
      obtain ⟨b, xs, rfl, hS, hA⟩ : ∃ a xs, v = .ref a ∧ SqT K H a xs ∧ DpAll K H xs ds := by
        cases hd with
        | data hd => cases hd with
          | tup h1 h2 => exact ⟨_, _, rfl, h1, h2⟩
      have lx := DpAll.len hA
      have l9 := tup_short hbk
      refine iteF ⟨.ref b, rfl, b, xs, rfl, .inr hS, .ref a, rfl, a, ws, rfl, hL, rfl, _, rfl, ?_⟩
      by_cases c0 : xs.length = ws.length
      case neg =>
        rw [show (!decide (V.int ((xs.length : Nat) : Int) = V.int ((ws.length : Nat) : Int))) = true from by rw [decide_eq_false fun z => c0 (by have := V.int.inj z; omega)]; rfl]
        refine iteT (q H false (same_refl H) ⟨(fun z => nomatch z), fun ⟨ns, z, g⟩ => ?_⟩)
        have e := PyData.tuple.inj z
        have := g.len
        rw [e, List.length_map] at lx
        omega
      rw [show (!decide (V.int ((xs.length : Nat) : Int) = V.int ((ws.length : Nat) : Int))) = false from by rw [c0, decide_eq_true rfl]; rfl]
      refine iteF ⟨.ref b, rfl, b, rfl, ⟨_, hS⟩, fun D hD => ?_⟩
      refine lc_tup (xs := xs) (fun i H' => Same H H' ∧ H' D = some (.lst ((((ds.take i).map fun z => betD z 0 20)).map V.bl))) ⟨same_new hD, upd_same⟩ (fun i H' _ h => Same.tup h.1 hS) (fun i x H' hx h => ?_) (fun H' h => ?_)
      · obtain ⟨dd, hdd, hxd⟩ := DpAll.at hA hx
        have hil := (List.getElem?_eq_some_iff.mp hdd).1
        refine ⟨rfl, x, rfl, x, dd, 0, 20, rfl, .data (Dp.same h.1 hxd), ?_⟩
        refine ⟨_, h.2, ?_, fun y o e => ?_, ?_⟩
        · rw [List.length_map, List.length_map, List.length_take]
          exact small1000 (by omega)
        · rw [upd_ne (ne_of_none e hD)]; exact h.1 _ _ e
        · rw [upd_same, List.take_add_one, hdd, List.map_append, List.map_append]; rfl
      · have h2 := h.2
        rw [lx, List.take_length] at h2
        refine ⟨D, _, rfl, .of h2, ((ds.map fun z => betD z 0 20)).all id, rfl, ?_⟩
        cases hall : ((ds.map fun z => betD z 0 20)).all id with
        | false =>
          refine iteF (q H' false h.1 ⟨(fun z => nomatch z), fun ⟨wt, e, g⟩ => ?_⟩)
          have : ((ds.map fun z => betD z 0 20)).all id = true := by
            rw [List.all_map, List.all_eq_true]
            intro z hz
            rw [PyData.tuple.inj e] at hz
            exact ints_bet (fun x hx => g.items x hx) z hz
          rw [this] at hall
          exact nomatch hall
        | true =>
          rw [List.all_map, List.all_eq_true] at hall
          obtain ⟨ns, rfl, hns⟩ := all_ints hall
          obtain rfl := dpInts_v hA
          refine iteT ⟨.ref b, rfl, b, ns, rfl, Same.tup h.1 hS, _, 0, rfl, rfl, ?_⟩
          refine q H' _ h.1 ⟨fun hs => ⟨ns, rfl, ?_, hns, of_decide_eq_true hs⟩, fun ⟨wt, e, g⟩ => ?_⟩
          · rw [List.length_map] at c0; exact c0
          · rw [tD_inj e]
            exact decide_eq_true g.some_
/-! ### require_lap, require_worths -/
def spReqA2 (K : PySem.W.Frag) (C Cl Ce : Addr) (R : Nat → PyData → Prop) : Sp := fun vs H Q E => ∃ v u, vs = [v, u] ∧
  ((PlainV K H v ∧ E (.ref Cl) none H) ∨ ∃ a ws d, v = .ref a ∧ LineAt K C H a ws ∧ Aq K H u d ∧ d.bulk ≤ 900 ∧ ∀ H', Same H H' → (R ws.length d → Q .non H') ∧ (¬ R ws.length d → E (.ref Ce) none H'))
theorem ok_require_lapA {f f1 f2 C Cl Ce : Addr} {fd fd1 fd2 : FuncData} {k : Nat} (F : Fun K "require_lap" "require_lap" s_require_lap f fd) (R : Err K mg "NoLap" Ce)
    (G1 : FnOk P w K mg base (L2.CX P w) k f1 fd1 ["thing"] (spReqLineA K C Cl)) (kp1 : PySem.W.keepIn K (.ref f1) = true) (b1 : Binds K fd1 ["thing"] []) (g1 : mg "require_line" = some (.ref f1))
    (G2 : FnOk P w K mg base CX0 k f2 fd2 ["line", "thing"] (spIsLapA K C LapD)) (kp2 : PySem.W.keepIn K (.ref f2) = true) (b2 : Binds K fd2 ["line", "thing"] []) (g2 : mg "is_lap" = some (.ref f2)) :
    FnOk P w K mg base (L2.CX P w) (k + 1) f fd ["line", "thing"] (spReqA2 K C Cl Ce LapD) := by
  refine F.okX sc_require_lap (fun vs H Q E h => ?_) (fun cdv A outer s H vs Q E hr h => ?_)
  · obtain ⟨v, u, rfl, _⟩ := h; rfl
  · obtain ⟨v, u, rfl, h⟩ := h
    refine ⟨_, pss_cons (ps_expr (pe_callS G1 hr (by rfl) g1 kp1 b1 (fun σ => passAt (takes_of rfl rfl rfl rfl) σ) (pa_cons (pv 0) pa_nil)))
      (pss_one (ps_if (pt_not (pt_val (pe_call G2 hr (by rfl) g2 kp2 b2 .nil pass0 (pa_cons (pv 0) (pa_cons (pv 1) pa_nil)))))
        (pss_one (ps_raise rfl (takes_of rfl rfl rfl rfl) (pmk_own PySem.F.excBase_ValueError R.x R.g R.k (raises_own R.b R.t) rfl))) pss_nil)), ?_⟩
    rcases h with ⟨hp, q⟩ | ⟨a, ws, d, rfl, hL, hd, hb, q⟩
    · exact ⟨v, rfl, v, rfl, .inr ⟨hp, q⟩⟩
    · refine ⟨.ref a, rfl, .ref a, rfl, .inl ⟨a, ws, rfl, hL, .ref a, rfl, u, rfl, a, u, ws, d, rfl, hL, hd, hb, fun H' b sm hb2 => ⟨b, rfl, ?_⟩⟩⟩
      cases b with
      | true => exact iteF ((q H' sm).1 (hb2.mp rfl))
      | false => exact iteT ((q H' sm).2 fun z => nomatch hb2.mpr z)
theorem ok_require_worthsA {f f1 f2 C Cl Ce : Addr} {fd fd1 fd2 : FuncData} {k : Nat} (F : Fun K "require_worths" "require_worths" s_require_worths f fd) (R : Err K mg "NoWorths" Ce)
    (G1 : FnOk P w K mg base (L2.CX P w) k f1 fd1 ["thing"] (spReqLineA K C Cl)) (kp1 : PySem.W.keepIn K (.ref f1) = true) (b1 : Binds K fd1 ["thing"] []) (g1 : mg "require_line" = some (.ref f1))
    (G2 : FnOk P w K mg base CX0 k f2 fd2 ["line", "thing"] (spIsLapA K C WtD)) (kp2 : PySem.W.keepIn K (.ref f2) = true) (b2 : Binds K fd2 ["line", "thing"] []) (g2 : mg "_is_worths" = some (.ref f2)) :
    FnOk P w K mg base (L2.CX P w) (k + 1) f fd ["line", "thing"] (spReqA2 K C Cl Ce WtD) := by
  refine F.okX sc_require_worths (fun vs H Q E h => ?_) (fun cdv A outer s H vs Q E hr h => ?_)
  · obtain ⟨v, u, rfl, _⟩ := h; rfl
  · obtain ⟨v, u, rfl, h⟩ := h
    refine ⟨_, pss_cons (ps_expr (pe_callS G1 hr (by rfl) g1 kp1 b1 (fun σ => passAt (takes_of rfl rfl rfl rfl) σ) (pa_cons (pv 0) pa_nil)))
      (pss_one (ps_if (pt_not (pt_val (pe_call G2 hr (by rfl) g2 kp2 b2 .nil pass0 (pa_cons (pv 0) (pa_cons (pv 1) pa_nil)))))
        (pss_one (ps_raise rfl (takes_of rfl rfl rfl rfl) (pmk_own PySem.F.excBase_ValueError R.x R.g R.k (raises_own R.b R.t) rfl))) pss_nil)), ?_⟩
    rcases h with ⟨hp, q⟩ | ⟨a, ws, d, rfl, hL, hd, hb, q⟩
    · exact ⟨v, rfl, v, rfl, .inr ⟨hp, q⟩⟩
    · refine ⟨.ref a, rfl, .ref a, rfl, .inl ⟨a, ws, rfl, hL, .ref a, rfl, u, rfl, a, u, ws, d, rfl, hL, hd, hb, fun H' b sm hb2 => ⟨b, rfl, ?_⟩⟩⟩
      cases b with
      | true => exact iteF ((q H' sm).1 (hb2.mp rfl))
      | false => exact iteT ((q H' sm).2 fun z => nomatch hb2.mpr z)
end
end Sg
set_option Elab.async false
set_option linter.all false
set_option maxRecDepth 100000
set_option maxHeartbeats 4000000
namespace Sg
open PySem PySem.Spec PyProof.Rows L2 StX
theorem aq_ints {K : PySem.W.Frag} {H : Hp} {u : V} {lp : List Int} (h : Aq K H u (tD lp)) : ∃ b, u = .ref b ∧ SqT K H b (lp.map V.int) := by
  generalize e : tD lp = d at h
  cases h with
  | dic _ _ => exact nomatch e
  | data h =>
    cases h with
    | tup h1 h2 =>
      obtain rfl := PyData.tuple.inj e
      obtain rfl := dpInts_v h2
      exact ⟨_, rfl, h1⟩
    | _ => exact nomatch e
section
variable {P : Program} {w : World} {K : PySem.W.Frag} {mg : Str → Option Value} {base : Heap}
def spFitsA (K : PySem.W.Frag) (C Cl Ce : Addr) : Sp := fun vs H Q E => ∃ v u, vs = [v, u] ∧
  ((PlainV K H v ∧ E (.ref Cl) none H) ∨ ∃ a ws d, v = .ref a ∧ LineAt K C H a ws ∧ Aq K H u d ∧ d.bulk ≤ 900 ∧ (¬ LapD ws.length d → ∀ H', Same H H' → E (.ref Ce) none H') ∧ (LapD ws.length d → ∀ H' r, Same H H' → Q (.bl r) H'))
theorem ok_fitsA {f f1 f2 C Cl Ce : Addr} {fd fd1 fd2 : FuncData} {k : Nat} (F : Fun K "fits" "fits" s_fits f fd)
    (G1 : FnOk P w K mg base (L2.CX P w) k f1 fd1 ["line", "thing"] (spReqA2 K C Cl Ce LapD)) (kp1 : PySem.W.keepIn K (.ref f1) = true) (b1 : Binds K fd1 ["line", "thing"] []) (g1 : mg "require_lap" = some (.ref f1))
    (G2 : FnOk P w K mg base CX0 k f2 fd2 ["line", "lap", "tick"] (spClashL K C)) (kp2 : PySem.W.keepIn K (.ref f2) = true) (b2 : Binds K fd2 ["line", "lap", "tick"] []) (g2 : mg "_clashes" = some (.ref f2))
    (m1 : mg "any" = none) (m2 : mg "range" = none) (m3 : mg "len" = none) : FnOk P w K mg base (L2.CX P w) (k + 1) f fd ["line", "lap"] (spFitsA K C Cl Ce) := by
  refine F.okX sc_fits (fun vs H Q E h => ?_) (fun cdv A outer s H vs Q E hr h => ?_)
  · obtain ⟨v, u, rfl, _⟩ := h; rfl
  · obtain ⟨v, u, rfl, h⟩ := h
    refine ⟨_, pss_cons (ps_expr (pe_callS G1 hr (by rfl) g1 kp1 b1 (fun σ => passAt (takes_of rfl rfl rfl rfl) σ) (pa_cons (pv 0) (pa_cons (pv 1) pa_nil))))
      (pss_one (ps_ret (pe_not (pe_callB (cr_any rfl) (by rfl) m1 (by decide +kernel) (pa_cons
        (pe_lc (own := [("tick", 2)]) (g := gName 2) (tt := tYes) rfl sc_fits.nd (pi_range1 (by rfl) m2 (pa_cons (pe_callB call_len_seq (by rfl) m3 PySem.boot_len (pa_cons (pv 1) pa_nil)) pa_nil)) (blkOk_by (N := ["line", "lap", "tick"]) (sc := defScope s_fits) (by decide +kernel))
          (fun _ _ _ _ _ => pg_name (i := 2) sc_fits.nd rfl (Or.inl rfl)) (fun _ _ _ _ _ => pts_nil)
          (fun _ _ _ _ _ => pe_call G2 hr (by rfl) g2 kp2 b2 .nil pass0 (pa_cons (pv 0) (pa_cons (pv 1) (pa_cons (pv 2) pa_nil))))) pa_nil))))), ?_⟩
    rcases h with ⟨hp, q⟩ | ⟨a, ws, d, rfl, hL, hd, hb, qe, q⟩
    · exact ⟨v, rfl, u, rfl, v, u, rfl, .inl ⟨hp, q⟩⟩
    refine ⟨.ref a, rfl, u, rfl, .ref a, u, rfl, .inr ⟨a, ws, d, rfl, hL, hd, hb, fun H1 e1 => ⟨fun hlap => ?_, fun hn => qe hn H1 e1⟩⟩⟩
    have q2 := q hlap
    obtain ⟨lp, rfl, hg⟩ := hlap
    obtain ⟨b, rfl, hS⟩ := aq_ints hd
    have ll : (lp.map V.int).length = lp.length := List.length_map _
    have l2 := hg.most
    refine ⟨.ref b, rfl, b, _, rfl, .inr (Same.tup e1 hS), _, rfl, by omega, by omega, fun D hD => ?_⟩
    refine lc_range (lo := 0) (n := (((lp.map V.int).length : Nat) : Int).toNat) (fun i H' => Same H1 H' ∧ ∃ bs : List Bool, H' D = some (.lst (bs.map V.bl)) ∧ bs.length = i ∧ (bs.any id = true ↔ ∃ t, t < i ∧ clashL ws lp t))
      ⟨same_new hD, [], upd_same, rfl, (fun y => (nomatch y)), fun ⟨t, y, _⟩ => absurd y (Nat.not_lt_zero _)⟩ (fun i H' hi h => ?_) (fun H' h => ?_)
    · obtain ⟨e2, bs, hD2, lb, hbs⟩ := h
      have hi2 : i < lp.length := by omega
      refine ⟨rfl, .ref a, rfl, .ref b, rfl, .int (0 + i), rfl, a, b, i, ws, lp, by rw [Int.zero_add]; rfl, hL.stay (.of (e1.trans e2)), Same.tup (e1.trans e2) hS, hg, hi2, fun H3 r e3 hr => ?_⟩
      refine ⟨_, e3 _ _ hD2, ?_, fun u o e => ?_, bs ++ [r], ?_, ?_, ?_⟩
      · rw [List.length_map]
        exact small1000 (by omega)
      · rw [upd_ne (ne_of_none e hD)]
        exact e3 _ _ (e2 _ _ e)
      · rw [upd_same, List.map_append]
        rfl
      · rw [List.length_append, lb]
        rfl
      · rw [List.any_append, Bool.or_eq_true, hbs]
        have one : ([r].any id = true) ↔ clashL ws lp i := by
          rw [← hr, List.any_cons, List.any_nil, Bool.or_false]
          rfl
        rw [one]
        constructor
        · rintro (⟨t, u, v⟩ | u)
          · exact ⟨t, by omega, v⟩
          · exact ⟨i, by omega, u⟩
        · rintro ⟨t, u, v⟩
          by_cases ht : t < i
          · exact .inl ⟨t, ht, v⟩
          · rw [show t = i by omega] at v
            exact .inr v
    · obtain ⟨e2, bs, hD2, lb, hbs⟩ := h
      rw [ll] at lb hbs
      rw [Int.toNat_natCast] at lb hbs
      exact ⟨D, bs, rfl, .of hD2, _, rfl, q2 H' _ (e1.trans e2)⟩
def spMeanA (K : PySem.W.Frag) (C Cl Ce Cw : Addr) : Sp := fun vs H Q E => ∃ v u t, vs = [v, u, t] ∧
  ((PlainV K H v ∧ E (.ref Cl) none H) ∨ ∃ a ws d, v = .ref a ∧ LineAt K C H a ws ∧ Aq K H u d ∧ d.bulk ≤ 900 ∧
    ((¬ LapD ws.length d ∧ ∀ H', Same H H' → E (.ref Ce) none H') ∨ ∃ lp e, d = tD lp ∧ GoodLap ws.length lp ∧ Aq K H t e ∧ e.bulk ≤ 900 ∧
      ((¬ WtD ws.length e ∧ ∀ H', Same H H' → E (.ref Cw) none H') ∨ ∃ wt, e = tD wt ∧ GoodWt ws.length wt ∧ ∀ H' p, Same H H' → SqT K H' p ((fracL (gainN wt lp) lp.length).map V.int) → Q (.ref p) H')))
theorem ok_meanA {f f1 f2 f3 f4 C Cl Ce Cw : Addr} {fd fd1 fd2 fd3 fd4 : FuncData} {k : Nat} (F : Fun K "mean" "mean" s_mean f fd)
    (G1 : FnOk P w K mg base (L2.CX P w) k f1 fd1 ["line", "thing"] (spReqA2 K C Cl Ce LapD)) (kp1 : PySem.W.keepIn K (.ref f1) = true) (b1 : Binds K fd1 ["line", "thing"] []) (g1 : mg "require_lap" = some (.ref f1))
    (G2 : FnOk P w K mg base (L2.CX P w) k f2 fd2 ["line", "thing"] (spReqA2 K C Cl Cw WtD)) (kp2 : PySem.W.keepIn K (.ref f2) = true) (b2 : Binds K fd2 ["line", "thing"] []) (g2 : mg "require_worths" = some (.ref f2))
    (G3 : FnOk P w K mg base CX0 k f3 fd3 ["worths", "choice"] (spWorth K)) (kp3 : PySem.W.keepIn K (.ref f3) = true) (b3 : Binds K fd3 ["worths", "choice"] []) (g3 : mg "worth_of" = some (.ref f3))
    (G4 : FnOk P w K mg base CX0 k f4 fd4 ["top", "bottom"] spFrac) (kp4 : PySem.W.keepIn K (.ref f4) = true) (b4 : Binds K fd4 ["top", "bottom"] []) (g4 : mg "fraction" = some (.ref f4))
    (m1 : mg "sum" = none) (m2 : mg "len" = none) : FnOk P w K mg base (L2.CX P w) (k + 1) f fd ["line", "lap", "worths"] (spMeanA K C Cl Ce Cw) := by
  refine F.okX sc_mean (fun vs H Q E h => ?_) (fun cdv A outer s H vs Q E hr h => ?_)
  · obtain ⟨v, u, t, rfl, _⟩ := h; rfl
  · obtain ⟨v, u, t, rfl, h⟩ := h
    refine ⟨_, pss_cons (ps_expr (pe_callS G1 hr (by rfl) g1 kp1 b1 (fun σ => passAt (takes_of rfl rfl rfl rfl) σ) (pa_cons (pv 0) (pa_cons (pv 1) pa_nil))))
      (pss_cons (ps_expr (pe_callS G2 hr (by rfl) g2 kp2 b2 (fun σ => passAt (takes_of rfl rfl rfl rfl) σ) (pa_cons (pv 0) (pa_cons (pv 2) pa_nil))))
      (pss_one (ps_ret (pe_call G4 hr (by rfl) g4 kp4 b4 .nil pass0 (pa_cons (pe_callB (cr_sum rfl) (by rfl) m1 (by decide +kernel) (pa_cons
          (pe_lc (own := [("choice", 3)]) (g := gName 3) (tt := tYes) rfl sc_mean.nd (pi_tup (pv 1)) (blkOk_by (N := ["line", "lap", "worths", "choice"]) (sc := defScope s_mean) (by decide +kernel))
            (fun _ _ _ _ _ => pg_name (i := 3) sc_mean.nd rfl (Or.inl rfl)) (fun _ _ _ _ _ => pts_nil)
            (fun _ _ _ _ _ => pe_call G3 hr (by rfl) g3 kp3 b3 .nil pass0 (pa_cons (pv 2) (pa_cons (pv 3) pa_nil)))) pa_nil)) (pa_cons (pe_callB call_len_seq (by rfl) m2 PySem.boot_len (pa_cons (pv 1) pa_nil)) pa_nil)))))), ?_⟩
    rcases h with ⟨hp, q⟩ | ⟨a, ws, d, rfl, hL, hd, hb, h⟩
    · exact ⟨v, rfl, u, rfl, v, u, rfl, .inl ⟨hp, q⟩⟩
    refine ⟨.ref a, rfl, u, rfl, .ref a, u, rfl, .inr ⟨a, ws, d, rfl, hL, hd, hb, fun H1 e1 => ?_⟩⟩
    rcases h with ⟨hno, qe⟩ | ⟨lp, e, rfl, hg, he, hbe, h⟩
    · exact ⟨fun z => absurd z hno, fun _ => qe H1 e1⟩
    refine ⟨fun _ => ?_, fun z => absurd ⟨lp, rfl, hg⟩ z⟩
    obtain ⟨b, rfl, hS⟩ := aq_ints hd
    refine ⟨.ref a, rfl, t, rfl, .ref a, t, rfl, .inr ⟨a, ws, e, rfl, hL.stay (.of e1), he.same e1, hbe, fun H2 e2 => ?_⟩⟩
    rcases h with ⟨hno, qe⟩ | ⟨wt, rfl, hw, q⟩
    · exact ⟨fun z => absurd z hno, fun _ => qe H2 (e1.trans e2)⟩
    refine ⟨fun _ => ?_, fun z => absurd ⟨wt, rfl, hw⟩ z⟩
    obtain ⟨c, rfl, hT⟩ := aq_ints he
    have ll : (lp.map V.int).length = lp.length := List.length_map _
    have l1 := hg.pos
    have l2 := hg.most
    have e12 := e1.trans e2
    refine ⟨.ref b, rfl, b, rfl, ⟨_, Same.tup e12 hS⟩, fun D hD => ?_⟩
    refine lc_tup (xs := lp.map V.int) (fun i H' => Same H2 H' ∧ H' D = some (.lst (((lp.take i).map (worthN wt)).map V.int))) ⟨same_new hD, upd_same⟩ (fun i H' _ h => Same.tup (e12.trans h.1) hS) (fun i x H' hx h => ?_) (fun H' h => ?_)
    · rw [List.getElem?_map] at hx
      obtain ⟨z, hz, rfl⟩ := Option.map_eq_some_iff.mp hx
      have hi := (List.getElem?_eq_some_iff.mp hz).1
      obtain ⟨z1, z2⟩ := hg.items z (List.mem_of_getElem? hz)
      have lw := hw.len
      refine ⟨rfl, .ref c, rfl, .int z, rfl, c, wt, z, rfl, Same.tup (e12.trans h.1) hT, z1, by omega, ?_⟩
      refine ⟨_, h.2, ?_, fun y o e => ?_, ?_⟩
      · rw [List.length_map, List.length_map, List.length_take]
        exact small1000 (by omega)
      · rw [upd_ne (ne_of_none e hD)]
        exact h.1 _ _ e
      · rw [upd_same, List.take_add_one, hz, List.map_append, List.map_append]
        rfl
    · rw [ll, List.take_length] at h
      have e3 := e12.trans h.1
      refine ⟨D, _, rfl, .of h.2, .ref b, rfl, b, _, rfl, .inr (Same.tup e3 hS), gainN wt lp, ((lp.map V.int).length : Nat), rfl, by omega, by omega, fun p np => ?_⟩
      refine q _ p (e3.trans (same_new np)) ?_
      rw [← ll]
      exact .of upd_same
end
end Sg
set_option Elab.async false
set_option linter.all false
set_option maxRecDepth 100000
set_option maxHeartbeats 4000000
namespace Sg
open PySem PySem.Spec PyProof.Rows L2 StX
section
variable {P : Program} {w : World} {K : PySem.W.Frag} {mg : Str → Option Value} {base : Heap}
/-! ### _law_work -/
def spWork : Sp := fun vs H Q _ => ∃ (p : Addr) (m st : Int), vs = [.ref p, .int m, .int st] ∧ PenAt H p ∧ 1 ≤ m ∧ m ≤ 60 ∧ 1 ≤ st ∧ st ≤ 10 ∧
  ∀ H' t (ns : List Int), PenAt H' p → But p H H' → H t = none → H' t = some (.tup (ns.map V.int)) → IsWork ns → (ns.length : Int) ≤ m → (∀ x ∈ ns, x < st) → Q (.ref t) H'
theorem ok_l_work {f f1 : Addr} {fd fd1 : FuncData} {k : Nat} (F : Fun K "_law_work" "_law_work" s_l_work f fd)
    (G1 : FnOk P w K mg base CX0 k f1 fd1 ["_law_pen_here", "_law_many"] spDraw) (kp1 : PySem.W.keepIn K (.ref f1) = true) (b1 : Binds K fd1 ["_law_pen_here", "_law_many"] []) (g1 : mg "_law_draw" = some (.ref f1))
    (m1 : mg "range" = none) (m2 : mg "tuple" = none) :
    FnOk P w K mg base CX0 (k + 1) f fd ["_law_pen_here", "_law_most", "_law_stations"] spWork := by
  refine F.ok sc_l_work (fun vs H Q E h => ?_) (fun cdv A outer s H vs Q E hr h => ?_)
  · obtain ⟨p, m, st, rfl, _⟩ := h; rfl
  · obtain ⟨p, m, st, rfl, hp, hm1, hm2, hs1, hs2, q⟩ := h
    refine ⟨_, pss_cons (ps_asg (pe_tup (pa_cons (pe_call G1 hr (by rfl) g1 kp1 b1 .nil pass0 (pa_cons (pv 0) (pa_cons pe_int pa_nil)))
        (pa_cons (pe_op op_add pe_int (pe_call G1 hr (by rfl) g1 kp1 b1 .nil pass0 (pa_cons (pv 0) (pa_cons (pv 1) pa_nil)))) pa_nil)))
        (pg_tup rfl (pgs_cons (pg_name (i := 3) sc_l_work.nd rfl (.inr rfl)) (pgs_cons (pg_name (i := 4) sc_l_work.nd rfl (.inl rfl)) pgs_nil))))
      (pss_cons (ps_setLc (i := 5) (own := [("_law_turn", 6)]) (g := gName 6) (tt := tYes) rfl sc_l_work.nd rfl rfl (sw_true rfl rfl rfl (by decide +kernel)) (pi_range1 (by rfl) m1 (pa_cons (pv 4) pa_nil))
          (blkOk_by (N := ["_law_pen_here", "_law_most", "_law_stations", "_law_way", "_law_long", "_law_items", "_law_turn"]) (sc := defScope s_l_work) (by decide +kernel))
          (fun _ _ _ _ _ => pg_name (i := 6) sc_l_work.nd rfl (Or.inl rfl)) (fun _ _ _ _ _ => pts_nil)
          (fun _ _ _ _ _ => pe_ifExp (pt_cmpR op_ge (pe_call G1 hr (by rfl) g1 kp1 b1 .nil pass0 (pa_cons (pv 0) (pa_cons pe_int pa_nil))) (pv 3) (nomark _))
            (pe_call G1 hr (by rfl) g1 kp1 b1 .nil pass0 (pa_cons (pv 0) (pa_cons (pv 2) pa_nil))) (pe_un un_neg pe_int)))
      (pss_cons (ps_asg (pe_tup (pa_cons (pe_call G1 hr (by rfl) g1 kp1 b1 .nil pass0 (pa_cons (pv 0) (pa_cons (pv 2) pa_nil))) (pa_cons (pe_call G1 hr (by rfl) g1 kp1 b1 .nil pass0 (pa_cons (pv 0) (pa_cons (pv 2) pa_nil))) pa_nil)))
        (pg_tup rfl (pgs_cons (pg_sub (pv 5) pe_int set_list) (pgs_cons (pg_sub (pv 5) (pe_un un_neg pe_int) set_list) pgs_nil))))
      (pss_one (ps_ret (pe_callTy call_tuple_of (by rfl) m2 (by decide +kernel) (pa_cons (pv 5) pa_nil)))))), ?_⟩
    refine ⟨.ref p, rfl, p, 3, rfl, hp, by decide, by decide, fun H1 way a1 a2 p1 e1 => ?_⟩
    refine ⟨.ref p, rfl, .int m, rfl, p, m, rfl, p1, by omega, by omega, fun H2 l0 a3 a4 p2 e2 => ?_⟩
    refine ⟨1, l0, rfl, rfl, by show 2 ≤ sizeLine; decide, fun T nT => ?_⟩
    have e12 := e1.trans e2
    have p3 : PenAt (upd H2 T (.tup [.int way, .int (1 + l0)])) p := p2.upd (p2.ne nT)
    have e3 : But p H (upd H2 T (.tup [.int way, .int (1 + l0)])) := e12.trans (.of (same_new nT))
    refine ⟨T, _, rfl, .of upd_same, rfl, _, _, rfl, _, _, rfl, rfl, ?_⟩
    generalize hH3 : upd H2 T (.tup [.int way, .int (1 + l0)]) = H3 at p3 e3 ⊢
    refine ⟨.int (1 + l0), rfl, 1 + l0, rfl, by omega, by omega, fun D hD => ?_⟩
    have n3 : p ≠ D := p3.ne hD
    refine lc_range (lo := 0) (n := (1 + l0).toNat) (fun i H' => PenAt H' p ∧ But p H3 H' ∧ ∃ ns : List Int, ns.length = i ∧ (∀ x ∈ ns, -1 ≤ x ∧ x < st) ∧ H' D = some (.lst (ns.map V.int)))
      ⟨p3.upd n3, .of (same_new hD), [], rfl, (fun x hx => nomatch hx), upd_same⟩ (fun i H' hi h => ?_) (fun H' h => ?_)
    · obtain ⟨p4, e4, ns, hlen, hall, hDl⟩ := h
      refine ⟨rfl, ?_⟩
      have fin : ∀ (H'' : Hp) (r : Int), PenAt H'' p → But p H' H'' → -1 ≤ r → r < st → ∃ acc, H'' D = some (.lst acc) ∧ acc.length < sizeLine ∧
          (PenAt (upd H'' D (.lst (acc ++ [V.int r]))) p ∧ But p H3 (upd H'' D (.lst (acc ++ [V.int r]))) ∧ ∃ ns : List Int, ns.length = i + 1 ∧ (∀ x ∈ ns, -1 ≤ x ∧ x < st) ∧ (upd H'' D (.lst (acc ++ [V.int r]))) D = some (.lst (ns.map V.int))) := by
        intro H'' r p5 e5 r1 r2
        have hD5 := e5 _ _ (Ne.symm n3) hDl
        refine ⟨_, hD5, ?_, p5.upd n3, fun b o n e => ?_, ns ++ [r], ?_, fun x hx => ?_, ?_⟩
        · rw [List.length_map]
          exact small1000 (by omega)
        · rw [upd_ne (ne_of_none e hD)]
          exact e5 _ _ n (e4 _ _ n e)
        · rw [List.length_append]; show ns.length + 1 = i + 1; omega
        · rcases List.mem_append.mp hx with z | z
          · exact hall x z
          · rw [List.mem_singleton.mp z]; exact ⟨r1, r2⟩
        · rw [upd_same, List.map_append]; rfl
      refine ⟨.ref p, rfl, p, 3, rfl, p4, by decide, by decide, fun H5 r b1 b2 p5 e5 => ?_⟩
      refine ⟨.int way, rfl, r, way, rfl, rfl, _, rfl, ite2 (fun _ => ?_) (fun _ => ?_)⟩
      · exact ⟨.ref p, rfl, .int st, rfl, p, st, rfl, p5, by omega, by omega, fun H6 r' c1 c2 p6 e6 => fin H6 r' p6 (e5.trans e6) (by omega) c2⟩
      · exact ⟨1, rfl, fin H5 (-1) p5 e5 (by omega) (by omega)⟩
    · obtain ⟨p4, e4, ns, hlen, hall, hDl⟩ := h
      refine ⟨.ref p, rfl, .int st, rfl, p, st, rfl, p4, by omega, by omega, fun H5 r c1 c2 p5 e5 => ?_⟩
      refine ⟨.ref p, rfl, .int st, rfl, p, st, rfl, p5, by omega, by omega, fun H6 r' c3 c4 p6 e6 => ?_⟩
      refine ⟨by show 2 ≤ sizeLine; decide, fun U nU => ?_⟩
      have hD6 := (e5.trans e6) _ _ (Ne.symm n3) hDl
      have nDU : D ≠ U := ne_of_none hD6 nU
      have hl0 : 0 < ns.length := by omega
      have hpos : ((ns.map V.int).length : Nat) = ns.length := by rw [List.length_map]
      refine ⟨U, _, rfl, .of upd_same, rfl, _, _, rfl, ?_⟩
      have hD7 : (upd H6 U (.tup [.int r, .int r'])) D = some (.lst (ns.map V.int)) := by rw [upd_ne nDU]; exact hD6
      have ix0 : ixN (ns.map V.int).length 0 = some 0 := by
        unfold ixN
        rw [if_pos (by decide), if_pos (by rw [hpos]; omega)]; rfl
      refine ⟨.ref D, rfl, D, _, 0, 0, rfl, rfl, hD7, ix0, ?_⟩
      have hD8 : (upd (upd H6 U (.tup [.int r, .int r'])) D (.lst ((ns.map V.int).set 0 (.int r)))) D = some (.lst ((ns.map V.int).set 0 (.int r))) := upd_same
      have ix1 : ixN ((ns.map V.int).set 0 (.int r)).length (-1) = some (ns.length - 1) := by
        unfold ixN
        rw [List.length_set, hpos, if_neg (by decide), if_pos (by omega)]
        congr 1
        omega
      refine ⟨_, _, rfl, .ref D, rfl, 1, rfl, D, _, -1, ns.length - 1, rfl, rfl, hD8, ix1, rfl, ?_⟩
      have eL : (((ns.map V.int).set 0 (.int r)).set (ns.length - 1) (.int r')) = (((ns.set 0 r).set (ns.length - 1) r').map V.int) := by rw [List.map_set, List.map_set]
      rw [eL]
      have hD9 : (upd (upd (upd H6 U (.tup [.int r, .int r'])) D (.lst ((ns.map V.int).set 0 (.int r)))) D (.lst (((ns.set 0 r).set (ns.length - 1) r').map V.int))) D = some (.lst (((ns.set 0 r).set (ns.length - 1) r').map V.int)) := upd_same
      have mem : ∀ x ∈ ((ns.set 0 r).set (ns.length - 1) r'), -1 ≤ x ∧ x < st := by
        intro x hx
        rcases List.mem_or_eq_of_mem_set hx with z | z
        · rcases List.mem_or_eq_of_mem_set z with z | z
          · exact hall x z
          · rw [z]; exact ⟨by omega, c2⟩
        · rw [z]; exact ⟨by omega, c4⟩
      have len' : ((ns.set 0 r).set (ns.length - 1) r').length = ns.length := by rw [List.length_set, List.length_set]
      refine ⟨.ref D, rfl, D, _, rfl, .inl ⟨.of hD9, fun t nt => ?_⟩⟩
      refine q _ t ((ns.set 0 r).set (ns.length - 1) r') ?_ ?_ ?_ upd_same ⟨by omega, by omega, fun x hx => ?_, fun x hx => ?_, fun x hx => ?_⟩ (by omega) (fun x hx => (mem x hx).2)
      · refine PenAt.upd (PenAt.upd (PenAt.upd (p6.upd (p6.ne nU)) n3) n3) (PenAt.ne (PenAt.upd (PenAt.upd (p6.upd (p6.ne nU)) n3) n3) nt)
      · refine fun b o n e => ?_
        have z := (e5.trans e6) _ _ n (e4 _ _ n (e3 _ _ n e))
        have nbD : b ≠ D := ne_of_none (e3 _ _ n e) hD
        have nbU : b ≠ U := ne_of_none z nU
        rw [upd_ne (ne_of_none (show (upd (upd (upd H6 U (.tup [.int r, .int r'])) D (.lst ((ns.map V.int).set 0 (.int r)))) D (.lst (((ns.set 0 r).set (ns.length - 1) r').map V.int))) b = some o by rw [upd_ne nbD, upd_ne nbD, upd_ne nbU]; exact z) nt), upd_ne nbD, upd_ne nbD, upd_ne nbU]
        exact z
      · -- t is new
        have nt6 : H6 t = none := by
          have z := nt
          have htD : t ≠ D := fun z' => by rw [z', hD9] at z; exact nomatch z
          rw [upd_ne htD, upd_ne htD] at z
          by_cases htU : t = U
          · rw [htU]; exact nU
          · rwa [upd_ne htU] at z
        exact hp.free p6 (e3.trans (e4.trans (e5.trans e6))) nt6
      · exact ⟨(mem x hx).1, by have := (mem x hx).2; omega⟩
      · have : x = r ∨ x = r' := by
          rw [List.getElem?_set] at hx
          split at hx
          · rw [if_pos (by rw [List.length_set]; omega)] at hx
            exact .inr (Option.some.inj hx).symm
          · rw [List.getElem?_set, if_pos rfl, if_pos hl0] at hx
            exact .inl (Option.some.inj hx).symm
        omega
      · rw [len', List.getElem?_set, if_pos rfl, if_pos (by rw [List.length_set]; omega)] at hx
        have := Option.some.inj hx
        omega
theorem len_cases {ws : List (List Int)} (h : GoodL ws) : (∃ a, ws = [a]) ∨ (∃ a b, ws = [a, b]) ∨ ∃ a b c, ws = [a, b, c] := by
  have h1 := h.least
  have h2 := h.few
  match ws, h1, h2 with
  | [a], _, _ => exact .inl ⟨a, rfl⟩
  | [a, b], _, _ => exact .inr (.inl ⟨a, b, rfl⟩)
  | [a, b, c], _, _ => exact .inr (.inr ⟨a, b, c, rfl⟩)
  | _ :: _ :: _ :: _ :: _, _, z => simp at z
/-! ### _law_made -/
def spMade (K : PySem.W.Frag) (C : Addr) : Sp := fun vs H Q _ => ∃ (t : Addr) (ws : List (List Int)), vs = [.ref t] ∧ Tp K H (.ref t) (.tuple (tDs ws)) ∧ GoodL ws ∧ ∀ H' x, Same H H' → H x = none → LineAt K C H' x ws → Q (.ref x) H'
theorem ok_made {f f1 C : Addr} {fd : FuncData} {k : Nat} (F : Fun K "_law_made" "_law_made" s_l_made f fd) (T : LC K mg C) (M : Mk K C f1) (G : FnR P w K mg base CX0 k f1 (spInit K C)) (m1 : mg "len" = none) :
    FnOk P w K mg base CX0 (k + 2) f fd ["_law_works_here"] (spMade K C) := by
  refine F.ok sc_l_made (fun vs H Q E h => ?_) (fun cdv A outer s H vs Q E hr h => ?_)
  · obtain ⟨t, ws, rfl, _⟩ := h; rfl
  · obtain ⟨t, ws, rfl, hW, hg, q⟩ := h
    refine ⟨_, pss_cons (ps_if (pt_cmpR op_eq (pe_callB call_len_seq (by rfl) m1 PySem.boot_len (pa_cons (pv 0) pa_nil)) pe_int (nomark _))
        (pss_one (ps_ret (pe_makeR M G hr (by rfl) T.mgC pass0 (pa_cons (pe_ix ix_tup (pv 0) pe_int (fun _ _ => rfl)) pa_nil)))) pss_nil)
      (pss_one (ps_ret (pe_ifExp (pt_cmpR op_eq (pe_callB call_len_seq (by rfl) m1 PySem.boot_len (pa_cons (pv 0) pa_nil)) pe_int (nomark _))
        (pe_makeR M G hr (by rfl) T.mgC pass0 (pa_cons (pe_ix ix_tup (pv 0) pe_int (fun _ _ => rfl)) (pa_cons (pe_ix ix_tup (pv 0) pe_int (fun _ _ => rfl)) pa_nil)))
        (pe_makeR M G hr (by rfl) T.mgC pass0 (pa_cons (pe_ix ix_tup (pv 0) pe_int (fun _ _ => rfl)) (pa_cons (pe_ix ix_tup (pv 0) pe_int (fun _ _ => rfl)) (pa_cons (pe_ix ix_tup (pv 0) pe_int (fun _ _ => rfl)) pa_nil))))))), ?_⟩
    obtain ⟨_, xs, e, hS, hT⟩ := hW.toTup
    cases e
    have fin : ∀ z dz, H z = none → H dz = none → dz ≠ z → spInit K C (V.ref z :: xs) (upd (upd H dz (.own z)) z (.ins C dz [])) (fun v H2 => v = .non ∧ Q (.ref z) H2) E0 := make_line hT hg q
    have il : ∀ n : Nat, decide (V.int ((n : Nat) : Int) = V.int 1) = decide (n = 1) := fun n => by
      by_cases h : n = 1
      · subst h; rfl
      · rw [decide_eq_false h, decide_eq_false fun z => h (by have := V.int.inj z; omega)]
    have il2 : ∀ n : Nat, decide (V.int ((n : Nat) : Int) = V.int 2) = decide (n = 2) := fun n => by
      by_cases h : n = 2
      · subst h; rfl
      · rw [decide_eq_false h, decide_eq_false fun z => h (by have := V.int.inj z; omega)]
    refine ⟨.ref t, rfl, t, xs, rfl, .inr hS, rfl, _, rfl, ?_⟩
    rw [il]
    rcases len_cases hg with ⟨a, rfl⟩ | ⟨a, b, rfl⟩ | ⟨a, b, c, rfl⟩
    · obtain ⟨x, rfl⟩ : ∃ x, xs = [x] := by
        have := hT.len
        match xs, this with
        | [x], _ => exact ⟨x, rfl⟩
      rw [show decide ([x].length = 1) = true from rfl]
      exact iteT ⟨.ref t, rfl, t, _, 0, x, rfl, rfl, hS, atI0, fin⟩
    · obtain ⟨x, y, rfl⟩ : ∃ x y, xs = [x, y] := by
        have := hT.len
        match xs, this with
        | [x, y], _ => exact ⟨x, y, rfl⟩
      rw [show decide ([x, y].length = 1) = false from rfl]
      refine iteF ⟨.ref t, rfl, t, _, rfl, .inr hS, rfl, _, rfl, ?_⟩
      rw [il2, show decide ([x, y].length = 2) = true from rfl]
      exact iteT ⟨.ref t, rfl, t, _, 0, x, rfl, rfl, hS, atI0, .ref t, rfl, t, _, 1, y, rfl, rfl, hS, atI1, fin⟩
    · obtain ⟨x, y, z, rfl⟩ : ∃ x y z, xs = [x, y, z] := by
        have := hT.len
        match xs, this with
        | [x, y, z], _ => exact ⟨x, y, z, rfl⟩
      rw [show decide ([x, y, z].length = 1) = false from rfl]
      refine iteF ⟨.ref t, rfl, t, _, rfl, .inr hS, rfl, _, rfl, ?_⟩
      rw [il2, show decide ([x, y, z].length = 2) = false from rfl]
      exact iteF ⟨.ref t, rfl, t, _, 0, x, rfl, rfl, hS, atI0, .ref t, rfl, t, _, 1, y, rfl, rfl, hS, atI1, .ref t, rfl, t, _, 2, z, rfl, rfl, hS, atI2, fin⟩
/-! ### _law_works -/
def spWorks (K : PySem.W.Frag) : Sp := fun vs H Q _ => ∃ p : Addr, vs = [.ref p] ∧ PenAt H p ∧ ∀ H' t ws, PenAt H' p → But p H H' → H t = none → Tp K H' (.ref t) (.tuple (tDs ws)) → GoodL ws → (∀ x ∈ ws, x.length ≤ if ws.length = 1 then 8 else 5) → Q (.ref t) H'
theorem ok_l_works {f f1 f2 : Addr} {fd fd1 fd2 : FuncData} {k : Nat} (F : Fun K "_law_works" "_law_works" s_l_works f fd)
    (G1 : FnOk P w K mg base CX0 k f1 fd1 ["_law_pen_here", "_law_many"] spDraw) (kp1 : PySem.W.keepIn K (.ref f1) = true) (b1 : Binds K fd1 ["_law_pen_here", "_law_many"] []) (g1 : mg "_law_draw" = some (.ref f1))
    (G2 : FnOk P w K mg base CX0 k f2 fd2 ["_law_pen_here", "_law_most", "_law_stations"] spWork) (kp2 : PySem.W.keepIn K (.ref f2) = true) (b2 : Binds K fd2 ["_law_pen_here", "_law_most", "_law_stations"] []) (g2 : mg "_law_work" = some (.ref f2))
    (m1 : mg "range" = none) (m2 : mg "tuple" = none) : FnOk P w K mg base CX0 (k + 1) f fd ["_law_pen_here"] (spWorks K) := by
  refine F.ok sc_l_works (fun vs H Q E h => ?_) (fun cdv A outer s H vs Q E hr h => ?_)
  · obtain ⟨p, rfl, _⟩ := h; rfl
  · obtain ⟨p, rfl, hp, q⟩ := h
    refine ⟨_, pss_cons (ps_set (i := 1) sc_l_works.nd rfl (Or.inr rfl) (pe_op op_add pe_int (pe_call G1 hr (by rfl) g1 kp1 b1 .nil pass0 (pa_cons (pv 0) (pa_cons pe_int pa_nil)))))
      (pss_cons (ps_set (i := 2) sc_l_works.nd rfl (Or.inr rfl) (pe_op op_add pe_int (pe_call G1 hr (by rfl) g1 kp1 b1 .nil pass0 (pa_cons (pv 0) (pa_cons pe_int pa_nil)))))
      (pss_one (ps_ret (pe_callTy call_tuple_of (by rfl) m2 (by decide +kernel) (pa_cons
        (pe_lc (own := [("_law_turn", 3)]) (g := gName 3) (tt := tYes) rfl sc_l_works.nd (pi_range1 (by rfl) m1 (pa_cons (pv 1) pa_nil))
          (blkOk_by (N := ["_law_pen_here", "_law_many", "_law_stations", "_law_turn"]) (sc := defScope s_l_works) (by decide +kernel))
          (fun _ _ _ _ _ => pg_name (i := 3) sc_l_works.nd rfl (Or.inl rfl)) (fun _ _ _ _ _ => pts_nil)
          (fun _ _ _ _ _ => pe_call G2 hr (by rfl) g2 kp2 b2 .nil pass0 (pa_cons (pv 0) (pa_cons (pe_ifExp (pt_cmpR op_eq (pv 1) pe_int (nomark _)) pe_int pe_int) (pa_cons (pv 2) pa_nil))))) pa_nil))))), ?_⟩
    refine ⟨.ref p, rfl, p, 3, rfl, hp, by decide, by decide, fun H1 r1 a1 a2 p1 e1 => ?_⟩
    refine ⟨1, r1, rfl, rfl, ?_⟩
    refine ⟨.ref p, rfl, p, 4, rfl, p1, by decide, by decide, fun H2 r2 a3 a4 p2 e2 => ?_⟩
    refine ⟨1, r2, rfl, rfl, ?_⟩
    refine ⟨.int (1 + r1), rfl, 1 + r1, rfl, by omega, by omega, fun D hD => ?_⟩
    have e12 := e1.trans e2
    have nD : p ≠ D := p2.ne hD
    refine lc_range (lo := 0) (n := (1 + r1).toNat) (fun i H' => PenAt H' p ∧ But p H2 H' ∧ ∃ acc ws, H' D = some (.lst acc) ∧ TpAll K H' acc (tDs ws) ∧ ws.length = i ∧ (∀ w ∈ ws, IsWork w) ∧ ∀ w ∈ ws, (w.length : Int) ≤ if 1 + r1 = 1 then 8 else 5)
      ⟨p2.upd nD, .of (same_new hD), [], [], upd_same, .no, rfl, (fun x hx => nomatch hx), fun x hx => nomatch hx⟩ (fun i H' hi h => ?_) (fun H' h => ?_)
    · obtain ⟨p4, e4, acc, ws, hDl, hT, hlen, hall, hmost⟩ := h
      refine ⟨rfl, ?_⟩
      have turn : ∀ H3 t (ns : List Int), PenAt H3 p → But p H' H3 → H' t = none → H3 t = some (.tup (ns.map V.int)) → IsWork ns → ((ns.length : Int) ≤ if 1 + r1 = 1 then 8 else 5) →
          ∃ acc, H3 D = some (.lst acc) ∧ acc.length < sizeLine ∧ (PenAt (upd H3 D (.lst (acc ++ [V.ref t]))) p ∧ But p H2 (upd H3 D (.lst (acc ++ [V.ref t]))) ∧
            ∃ acc' ws, (upd H3 D (.lst (acc ++ [V.ref t]))) D = some (.lst acc') ∧ TpAll K (upd H3 D (.lst (acc ++ [V.ref t]))) acc' (tDs ws) ∧ ws.length = i + 1 ∧ (∀ w ∈ ws, IsWork w) ∧ ∀ w ∈ ws, (w.length : Int) ≤ if 1 + r1 = 1 then 8 else 5) := by
        intro H3 t ns b1 b2 b3 b4 b5 b6
        have hD3 := b2 _ _ (Ne.symm nD) hDl
        have st1 : St K H' H3 := .pen b2 p4
        have st2 : St K H3 (upd H3 D (.lst (acc ++ [V.ref t]))) := .but .upd hD3
        refine ⟨acc, hD3, ?_, b1.upd nD, fun b o n e => ?_, _, ws ++ [ns], upd_same, ?_, by rw [List.length_append, hlen]; rfl, fun w hw => ?_, fun w hw => ?_⟩
        · have z := hT.len
          rw [List.length_map, hlen] at z
          exact small1000 (by omega)
        · rw [upd_ne (ne_of_none e hD)]
          exact b2 _ _ n (e4 _ _ n e)
        · show TpAll K _ _ ((ws ++ [ns]).map tD)
          rw [List.map_append]
          exact ((hT.stay st1).stay st2).add (.on ((Tp.ofInts (.of b4)).stay st2) .no)
        · rcases List.mem_append.mp hw with z | z
          · exact hall w z
          · rw [List.mem_singleton.mp z]; exact b5
        · rcases List.mem_append.mp hw with z | z
          · exact hmost w z
          · rw [List.mem_singleton.mp z]; exact b6
      refine ⟨.ref p, rfl, .int (1 + r1), rfl, rfl, _, rfl, ite2 (fun c1 => ?_) (fun c1 => ?_)⟩
      · have c2 : 1 + r1 = 1 := V.int.inj (of_decide_eq_true c1)
        exact ⟨.int (1 + r2), rfl, p, 8, 1 + r2, rfl, p4, by decide, by decide, by omega, by omega, fun H3 t ns b1 b2 b3 b4 b5 b6 _ => turn H3 t ns b1 b2 b3 b4 b5 (by rw [if_pos c2]; exact b6)⟩
      · have c2 : ¬ 1 + r1 = 1 := fun z => c1 (by rw [z]; exact decide_eq_true rfl)
        exact ⟨.int (1 + r2), rfl, p, 5, 1 + r2, rfl, p4, by decide, by decide, by omega, by omega, fun H3 t ns b1 b2 b3 b4 b5 b6 _ => turn H3 t ns b1 b2 b3 b4 b5 (by rw [if_neg c2]; exact b6)⟩
    · obtain ⟨p4, e4, acc, ws, hDl, hT, hlen, hall, hmost⟩ := h
      refine ⟨D, acc, rfl, .inl ⟨.of hDl, fun l nl => ?_⟩⟩
      have bb : But p H (upd H' l (.tup acc)) := e12.trans (e4.trans (.of (same_new nl)))
      refine q _ l ws (p4.upd (p4.ne nl)) bb ?_ (.new nl hT) ⟨by omega, by omega, hall⟩ (fun x hx => ?_)
      · exact hp.free p4 (e12.trans e4) nl
      · have := hmost x hx
        by_cases z : 1 + r1 = 1
        · rw [if_pos z] at this
          rw [if_pos (by omega)]; omega
        · rw [if_neg z] at this
          rw [if_neg (by omega)]; omega
end
end Sg
set_option Elab.async false
set_option linter.all false
set_option maxRecDepth 100000
set_option maxHeartbeats 4000000
namespace Sg
open PySem PySem.Spec PyProof.Rows L2 StX
section
variable {P : Program} {w : World} {K : PySem.W.Frag} {mg : Str → Option Value} {base : Heap}
/-! ### _law_pick -/
def spPick : Sp := fun vs H Q _ => ∃ (p l : Addr) (ns : List Int), vs = [.ref p, .ref l] ∧ PenAt H p ∧ l ≠ p ∧ H l = some (.lst (ns.map V.int)) ∧ 0 < ns.length ∧ ns.length < 1000000 ∧
  ∀ H' n, n ∈ ns → PenAt H' p → But p H H' → Q (.int n) H'
theorem ok_pick {f f1 : Addr} {fd fd1 : FuncData} {k : Nat} (F : Fun K "_law_pick" "_law_pick" s_l_pick f fd)
    (G1 : FnOk P w K mg base CX0 k f1 fd1 ["_law_pen_here", "_law_many"] spDraw) (kp1 : PySem.W.keepIn K (.ref f1) = true) (b1 : Binds K fd1 ["_law_pen_here", "_law_many"] []) (g1 : mg "_law_draw" = some (.ref f1))
    (m1 : mg "len" = none) : FnOk P w K mg base CX0 (k + 1) f fd ["_law_pen_here", "_law_some"] spPick := by
  refine F.ok sc_l_pick (fun vs H Q E h => ?_) (fun cdv A outer s H vs Q E hr h => ?_)
  · obtain ⟨p, l, ns, rfl, _⟩ := h; rfl
  · obtain ⟨p, l, ns, rfl, hp, nlp, hl, z0, z1, q⟩ := h
    refine ⟨_, pss_one (ps_ret (pe_ix ix_list (pv 1) (pe_call G1 hr (by rfl) g1 kp1 b1 .nil pass0 (pa_cons (pv 0) (pa_cons (pe_callB call_len_seq (by rfl) m1 PySem.boot_len (pa_cons (pv 1) pa_nil)) pa_nil))) (fun _ _ => rfl))), ?_⟩
    have len : (ns.map V.int).length = ns.length := List.length_map _
    refine ⟨.ref l, rfl, .ref p, rfl, .ref l, rfl, l, _, rfl, .inl (.of hl), p, _, rfl, hp, by rw [len]; omega, by rw [len]; omega, fun H' r r0 r1 p' b' => ?_⟩
    rw [len] at r1
    obtain ⟨j, rfl⟩ : ∃ j : Nat, r = j := ⟨r.toNat, by omega⟩
    have hj : j < ns.length := by omega
    refine ⟨l, _, (j : Int), .int ns[j], rfl, rfl, .of (b' _ _ nlp hl), atI_nat ?_, q H' ns[j] (List.getElem_mem hj) p' b'⟩
    rw [List.getElem?_map, List.getElem?_eq_getElem hj]
    rfl
/-! ### _law_low -/
def spLow (K : PySem.W.Frag) : Sp := fun vs H Q _ => ∃ a b : Nat, vs = [.int (a : Nat), .int (b : Nat)] ∧ 0 < b ∧ b ≤ 900 ∧ ∀ H' p, Same H H' → SqT K H' p ((fracL (a : Nat) (b : Nat)).map V.int) → Q (.ref p) H'
theorem ok_low {f : Addr} {fd : FuncData} {k : Nat} (F : Fun K "_law_low" "_law_low" s_l_low f fd) : FnOk P w K mg base CX0 (k + 1) f fd ["_law_top", "_law_bottom"] (spLow K) := by
  refine F.ok sc_l_low (fun vs H Q E h => ?_) (fun cdv A outer s H vs Q E hr h => ?_)
  · obtain ⟨a, b, rfl, _⟩ := h; rfl
  · obtain ⟨a, b, rfl, hb, hb2, q⟩ := h
    refine ⟨_, pss_cons (ps_par (i := 2) (j := 3) (by rfl) sc_l_low.nd rfl rfl (by decide) rfl rfl (pa_cons (pv 0) (pa_cons (pv 1) pa_nil)) (by rfl))
      (pss_cons (ps_while PassesOwn.never (pt_cmpR op_gt (pv 2) pe_int (nomark _))
        (pss_one (ps_par (i := 2) (j := 3) (by rfl) sc_l_low.nd rfl rfl (by decide) rfl rfl (pa_cons (pe_op op_mod (pv 3) (pv 2)) (pa_cons (pv 2) pa_nil)) (by rfl))))
      (pss_one (ps_ret (pe_tup (pa_cons (pe_op op_fdiv (pv 0) (pv 3)) (pa_cons (pe_op op_fdiv (pv 1) (pv 3)) pa_nil)))))), ?_⟩
    refine ⟨.int (a : Nat), rfl, .int (b : Nat), rfl, _, _, rfl, ?_⟩
    refine ⟨fun n σ H' => ∃ x y : Nat, σ = [some (.int (a : Nat)), some (.int (b : Nat)), some (.int (x : Nat)), some (.int (y : Nat))] ∧ H' = H ∧ 0 < y ∧ Nat.gcd x y = Nat.gcd a b ∧ n = x, ⟨_, _, _, rfl, rfl, hb, rfl, rfl⟩, ?_⟩
    rintro x σ H1 ⟨_, y, rfl, rfl, hy, hgcd, rfl⟩
    refine ⟨.int (x : Nat), rfl, (x : Nat), 0, rfl, rfl, _, rfl, ite2 (fun e => ?_) (fun e => ?_)⟩
    · have hx : 0 < x := by
        have := of_decide_eq_true e
        omega
      have em : (((y : Nat) : Int)) % ((x : Nat) : Int) = ((y % x : Nat) : Int) := by first | rfl | exact (Int.natCast_emod y x).symm
      refine ⟨fun σ' H'' => σ' = [some (.int (a : Nat)), some (.int (b : Nat)), some (.int ((y % x : Nat) : Int)), some (.int (x : Nat))] ∧ H'' = H1, fun σ' H'' ⟨e1, e2⟩ => ⟨_, Nat.mod_lt y hx, y % x, x, e1, e2, hx, by rw [← Nat.gcd_rec]; exact hgcd, rfl⟩, ?_⟩
      refine ⟨.int (y : Nat), rfl, .int (x : Nat), rfl, (y : Nat), (x : Nat), rfl, rfl, by omega, .int (x : Nat), rfl, _, _, rfl, ?_, rfl⟩
      exact congrArg (fun z : Int => [some (V.int (a : Nat)), some (V.int (b : Nat)), some (V.int z), some (V.int (x : Nat))]) em
    · have hx : x = 0 := by
        have : ¬ ((x : Nat) : Int) > 0 := fun z => e (decide_eq_true z)
        omega
      subst hx
      rw [Nat.gcd_zero_left] at hgcd
      have hle : Nat.gcd a b ≤ b := Nat.gcd_le_right _ hb
      refine ⟨.int (a : Nat), rfl, .int (y : Nat), rfl, (a : Nat), (y : Nat), rfl, rfl, ⟨by omega, by omega⟩, .int (b : Nat), rfl, .int (y : Nat), rfl, (b : Nat), (y : Nat), rfl, rfl, ⟨by omega, by omega⟩, by show 2 ≤ sizeLine; decide, fun p np => ?_⟩
      refine q _ p (same_new np) ?_
      have ef : fracL (a : Nat) (b : Nat) = [((a : Nat) : Int) / ((y : Nat) : Int), ((b : Nat) : Int) / ((y : Nat) : Int)] := by
        unfold fracL
        rw [Int.natAbs_natCast, Int.natAbs_natCast, ← hgcd]
      rw [ef]
      exact .of upd_same
/-! ### _law_mean -/
def spLMean (K : PySem.W.Frag) : Sp := fun vs H Q _ => ∃ (b c : Addr) (n : Nat) (lp wt : List Int), vs = [.ref b, .ref c] ∧ SqT K H b (lp.map V.int) ∧ GoodLap n lp ∧ SqT K H c (wt.map V.int) ∧ GoodWt n wt ∧ ∀ H' p, Same H H' → SqT K H' p ((fracL (gainN wt lp) lp.length).map V.int) → Q (.ref p) H'
theorem gain_snoc (wt : List Int) (lp : List Int) (x : Int) : gainN wt (lp ++ [x]) = gainN wt lp + worthN wt x := by
  unfold gainN
  rw [List.map_append, List.sum_append]
  simp
theorem gain_pos {n : Nat} {wt : List Int} (hw : GoodWt n wt) : ∀ lp : List Int, 0 ≤ gainN wt lp
  | [] => Int.le_refl _
  | x :: r => by
    have h1 := gain_pos hw r
    have h2 : 0 ≤ worthN wt x := by
      unfold worthN
      split
      · exact Int.le_refl _
      · rw [List.getD_eq_getElem?_getD]
        cases e : wt[x.toNat]? with
        | none => exact Int.le_refl _
        | some y => exact (hw.items y (List.mem_of_getElem? e)).1
    show 0 ≤ (worthN wt x :: r.map (worthN wt)).sum
    rw [List.sum_cons]
    unfold gainN at h1
    omega
theorem ok_l_mean {f f1 : Addr} {fd fd1 : FuncData} {k : Nat} (F : Fun K "_law_mean" "_law_mean" s_l_mean f fd)
    (G1 : FnOk P w K mg base CX0 k f1 fd1 ["_law_top", "_law_bottom"] (spLow K)) (kp1 : PySem.W.keepIn K (.ref f1) = true) (b1 : Binds K fd1 ["_law_top", "_law_bottom"] []) (g1 : mg "_law_low" = some (.ref f1))
    (m1 : mg "sum" = none) (m2 : mg "len" = none) : FnOk P w K mg base CX0 (k + 1) f fd ["_law_lap_here", "_law_worths_here"] (spLMean K) := by
  refine F.ok sc_l_mean (fun vs H Q E h => ?_) (fun cdv A outer s H vs Q E hr h => ?_)
  · obtain ⟨b, c, n, lp, wt, rfl, _⟩ := h; rfl
  · obtain ⟨b, c, n, lp, wt, rfl, hS, hg, hT, hw, q⟩ := h
    refine ⟨_, pss_one (ps_ret (pe_call G1 hr (by rfl) g1 kp1 b1 .nil pass0 (pa_cons (pe_callB (cr_sum rfl) (by rfl) m1 (by decide +kernel) (pa_cons
        (pe_lc (own := [("_law_one", 2)]) (g := gName 2) rfl sc_l_mean.nd (pi_tup (pv 0)) (blkOk_by (N := ["_law_lap_here", "_law_worths_here", "_law_one"]) (sc := defScope s_l_mean) (by decide +kernel))
          (fun _ _ _ _ _ => pg_name (i := 2) sc_l_mean.nd rfl (Or.inl rfl)) (fun _ _ _ _ _ => pts_one (pt_cmpR op_gt (pv 2) (pe_un un_neg pe_int) (nomark _)))
          (fun _ _ _ _ _ => pe_ix (ix_tupK (K := K) rfl) (pv 1) (pv 2) (fun _ _ => rfl))) pa_nil)) (pa_cons (pe_callB call_len_seq (by rfl) m2 PySem.boot_len (pa_cons (pv 0) pa_nil)) pa_nil)))), ?_⟩
    have ll : (lp.map V.int).length = lp.length := List.length_map _
    have l1 := hg.pos
    have l2 := hg.most
    have lw := hw.len
    refine ⟨.ref b, rfl, b, rfl, ⟨_, hS⟩, fun D hD => ?_⟩
    refine lc_tup (xs := lp.map V.int) (fun i H' => Same H H' ∧ ∃ ns : List Int, H' D = some (.lst (ns.map V.int)) ∧ ns.length ≤ i ∧ ns.sum = gainN wt (lp.take i)) ⟨same_new hD, [], upd_same, Nat.le_refl _, rfl⟩ (fun i H' _ h => Same.tup h.1 hS) (fun i x H' hx h => ?_) (fun H' h => ?_)
    · obtain ⟨e1, ns, hD1, ln, hs⟩ := h
      rw [List.getElem?_map] at hx
      obtain ⟨z, hz, rfl⟩ := Option.map_eq_some_iff.mp hx
      have hi := (List.getElem?_eq_some_iff.mp hz).1
      obtain ⟨z1, z2⟩ := hg.items z (List.mem_of_getElem? hz)
      have et : lp.take (i + 1) = lp.take i ++ [z] := by rw [List.take_add_one, hz]; rfl
      refine ⟨rfl, .int z, rfl, 1, rfl, z, -1, rfl, rfl, _, rfl, ite2 (fun e => ?_) (fun e => ?_)⟩
      · have hz0 : z ≠ -1 := fun y => by
          have := of_decide_eq_true e
          omega
        obtain ⟨j, rfl⟩ : ∃ j : Nat, z = j := ⟨z.toNat, by omega⟩
        have hj : j < wt.length := by omega
        refine ⟨.ref c, rfl, .int (j : Nat), rfl, c, _, (j : Nat), .int wt[j], rfl, rfl, Same.tup e1 hT, atI_nat (by rw [List.getElem?_map, List.getElem?_eq_getElem hj]; rfl), ?_⟩
        refine ⟨_, hD1, ?_, fun u o g => ?_, ns ++ [wt[j]], ?_, ?_, ?_⟩
        · rw [List.length_map]
          exact small1000 (by omega)
        · rw [upd_ne (ne_of_none g hD)]
          exact e1 _ _ g
        · rw [upd_same, List.map_append]
          rfl
        · rw [List.length_append]
          show ns.length + 1 ≤ i + 1
          omega
        · rw [et, gain_snoc, List.sum_append, hs]
          unfold worthN
          rw [if_neg hz0, Int.toNat_natCast, List.getD_eq_getElem?_getD, List.getElem?_eq_getElem hj]
          simp
      · have hz0 : z = -1 := by
          have : ¬ z > -1 := fun y => e (decide_eq_true y)
          omega
        refine ⟨e1, ns, hD1, by omega, ?_⟩
        rw [et, gain_snoc, hs]
        unfold worthN
        rw [if_pos hz0]
        omega
    · obtain ⟨e1, ns, hD1, ln, hs⟩ := h
      rw [ll, List.take_length] at hs
      obtain ⟨g, hgn⟩ : ∃ g : Nat, gainN wt lp = g := ⟨(gainN wt lp).toNat, by have := gain_pos hw lp; omega⟩
      refine ⟨D, ns, rfl, .of hD1, .ref b, rfl, b, _, rfl, .inr (Same.tup e1 hS), g, lp.length, ?_, by omega, by omega, fun H2 p e2 hp => ?_⟩
      · rw [hs, hgn, ll]
        rfl
      · refine q H2 p (e1.trans e2) ?_
        rw [hgn]
        exact hp
/-! ### _law_lap -/
def spLLap (K : PySem.W.Frag) : Sp := fun vs H Q _ => ∃ (p : Addr) (n : Nat) (most : Int), vs = [.ref p, .int (n : Nat), .int most] ∧ PenAt H p ∧ 1 ≤ n ∧ n ≤ 3 ∧ 1 ≤ most ∧ most ≤ 100 ∧
  ∀ H' t lp, PenAt H' p → But p H H' → H t = none → SqT K H' t (lp.map V.int) → GoodLap n lp → lp.length ≤ 100 → Q (.ref t) H'
theorem ok_l_lap {f f1 : Addr} {fd fd1 : FuncData} {k : Nat} (F : Fun K "_law_lap" "_law_lap" s_l_lap f fd)
    (G1 : FnOk P w K mg base CX0 k f1 fd1 ["_law_pen_here", "_law_many"] spDraw) (kp1 : PySem.W.keepIn K (.ref f1) = true) (b1 : Binds K fd1 ["_law_pen_here", "_law_many"] []) (g1 : mg "_law_draw" = some (.ref f1))
    (m1 : mg "range" = none) (m2 : mg "tuple" = none) : FnOk P w K mg base CX0 (k + 1) f fd ["_law_pen_here", "_law_many", "_law_most"] (spLLap K) := by
  refine F.ok sc_l_lap (fun vs H Q E h => ?_) (fun cdv A outer s H vs Q E hr h => ?_)
  · obtain ⟨p, n, most, rfl, _⟩ := h; rfl
  · obtain ⟨p, n, most, rfl, hp, n1, n2, ms1, ms2, q⟩ := h
    refine ⟨_, pss_cons (ps_set (i := 3) sc_l_lap.nd rfl (.inr rfl) (pe_op op_add pe_int (pe_call G1 hr (by rfl) g1 kp1 b1 .nil pass0 (pa_cons (pv 0) (pa_cons pe_int pa_nil)))))
      (pss_cons (ps_setLc (i := 4) (own := [("_law_turn", 5)]) (g := gName 5) (tt := tYes) rfl sc_l_lap.nd rfl rfl (sw_true rfl rfl rfl (by decide +kernel)) (pi_range1 (by rfl) m1 (pa_cons (pe_op op_add pe_int (pe_call G1 hr (by rfl) g1 kp1 b1 .nil pass0 (pa_cons (pv 0) (pa_cons (pv 2) pa_nil)))) pa_nil))
          (blkOk_by (N := ["_law_pen_here", "_law_many", "_law_most", "_law_share", "_law_some", "_law_turn"]) (sc := defScope s_l_lap) (by decide +kernel))
          (fun _ _ _ _ _ => pg_name (i := 5) sc_l_lap.nd rfl (Or.inl rfl)) (fun _ _ _ _ _ => pts_nil)
          (fun _ _ _ _ _ => pe_ifExp (pt_cmpR op_eq (pe_call G1 hr (by rfl) g1 kp1 b1 .nil pass0 (pa_cons (pv 0) (pa_cons (pv 3) pa_nil))) pe_int (nomark _))
            (pe_call G1 hr (by rfl) g1 kp1 b1 .nil pass0 (pa_cons (pv 0) (pa_cons (pv 1) pa_nil))) (pe_un un_neg pe_int)))
      (pss_one (ps_ret (pe_callTy call_tuple_of (by rfl) m2 (by decide +kernel) (pa_cons (pv 4) pa_nil))))), ?_⟩
    refine ⟨.ref p, rfl, p, 4, rfl, hp, by decide, by decide, fun H1 sh s0 s1 p1 c1 => ⟨1, sh, rfl, rfl, ?_⟩⟩
    refine ⟨.ref p, rfl, .int most, rfl, p, most, rfl, p1, by omega, by omega, fun H2 r r0 r1 p2 c2 => ⟨1, r, rfl, rfl, 1 + r, rfl, by omega, by omega, fun D hD => ?_⟩⟩
    have c12 := c1.trans c2
    have nDp : D ≠ p := (p2.ne hD).symm
    have hDH : H D = none := hp.free p2 c12 hD
    refine lc_range (lo := 0) (n := (1 + r).toNat) (fun i H' => PenAt H' p ∧ But p H H' ∧ ∃ ns : List Int, ns.length = i ∧ (∀ x ∈ ns, -1 ≤ x ∧ x < n) ∧ H' D = some (.lst (ns.map V.int)))
      ⟨p2.new hD, c12.trans (.of (same_new hD)), [], rfl, (fun x hx => (nomatch hx)), upd_same⟩ (fun i H' hi h => ?_) (fun H' h => ?_)
    · obtain ⟨p4, c4, ns, hlen, hall, hDl⟩ := h
      refine ⟨rfl, ?_⟩
      have fin : ∀ (H'' : Hp) (z : Int), PenAt H'' p → But p H' H'' → -1 ≤ z → z < n → ∃ acc, H'' D = some (.lst acc) ∧ acc.length < sizeLine ∧
          (PenAt (L2.upd H'' D (.lst (acc ++ [V.int z]))) p ∧ But p H (L2.upd H'' D (.lst (acc ++ [V.int z]))) ∧ ∃ ns : List Int, ns.length = i + 1 ∧ (∀ x ∈ ns, -1 ≤ x ∧ x < n) ∧ (L2.upd H'' D (.lst (acc ++ [V.int z]))) D = some (.lst (ns.map V.int))) := by
        intro H'' z p5 c5 z1 z2
        refine ⟨_, c5 _ _ nDp hDl, ?_, p5.upd nDp.symm, fun b o nb e => ?_, ns ++ [z], ?_, fun x hx => ?_, ?_⟩
        · rw [List.length_map]
          exact small1000 (by omega)
        · rw [upd_ne (ne_of_none e hDH)]
          exact c5 _ _ nb (c4 _ _ nb e)
        · rw [List.length_append, hlen]
          rfl
        · rcases List.mem_append.mp hx with y | y
          · exact hall x y
          · rw [List.mem_singleton.mp y]; exact ⟨z1, z2⟩
        · rw [upd_same, List.map_append]; rfl
      refine ⟨.ref p, rfl, .int (1 + sh), rfl, p, 1 + sh, rfl, p4, by omega, by omega, fun H5 r' _ _ p5 c5 => ⟨rfl, _, rfl, ite2 (fun _ => ?_) (fun _ => ?_)⟩⟩
      · exact ⟨.ref p, rfl, .int (n : Nat), rfl, p, (n : Nat), rfl, p5, by omega, by omega, fun H6 r2 d1 d2 p6 c6 => fin H6 r2 p6 (c5.trans c6) (by omega) d2⟩
      · exact ⟨1, rfl, fin H5 (-1) p5 c5 (by omega) (by omega)⟩
    · obtain ⟨p4, c4, ns, hlen, hall, hDl⟩ := h
      refine ⟨.ref D, rfl, D, _, rfl, .inl ⟨.of hDl, fun t nt => ?_⟩⟩
      exact q _ t ns (p4.new nt) (c4.trans (.of (same_new nt))) (hp.free p4 c4 nt) (.of upd_same) ⟨by omega, by omega, hall⟩ (by omega)
/-! ### _law_worths -/
def spLWt (K : PySem.W.Frag) : Sp := fun vs H Q _ => ∃ (p : Addr) (n : Nat), vs = [.ref p, .int (n : Nat)] ∧ PenAt H p ∧ 1 ≤ n ∧ n ≤ 3 ∧
  ∀ H' t wt, PenAt H' p → But p H H' → H t = none → SqT K H' t (wt.map V.int) → GoodWt n wt → Q (.ref t) H'
theorem sum_pos : ∀ {ns : List Int}, (∀ x ∈ ns, 0 ≤ x) → ∀ {y : Int}, y ∈ ns → 0 < y → 0 < ns.sum
  | [], _, y, h, _ => nomatch h
  | a :: r, h, y, hy, h0 => by
    have h1 : 0 ≤ r.sum := by
      have : ∀ l : List Int, (∀ x ∈ l, 0 ≤ x) → 0 ≤ l.sum := by
        intro l
        induction l with
        | nil => intro _; exact Int.le_refl _
        | cons b l ih =>
          intro hl
          rw [List.sum_cons]
          have := ih fun x hx => hl x (List.mem_cons_of_mem _ hx)
          have := hl b List.mem_cons_self
          omega
      exact this r fun x hx => h x (List.mem_cons_of_mem _ hx)
    have ha := h a List.mem_cons_self
    rw [List.sum_cons]
    rcases List.mem_cons.mp hy with rfl | hy
    · omega
    · have := sum_pos (fun x hx => h x (List.mem_cons_of_mem _ hx)) hy h0
      omega
theorem ok_l_worths {f f1 f2 : Addr} {fd fd1 fd2 : FuncData} {k : Nat} (F : Fun K "_law_worths" "_law_worths" s_l_worths f fd)
    (G1 : FnOk P w K mg base CX0 k f1 fd1 ["_law_pen_here", "_law_many"] spDraw) (kp1 : PySem.W.keepIn K (.ref f1) = true) (b1 : Binds K fd1 ["_law_pen_here", "_law_many"] []) (g1 : mg "_law_draw" = some (.ref f1))
    (G2 : FnOk P w K mg base CX0 k f2 fd2 ["_law_pen_here", "_law_some"] spPick) (kp2 : PySem.W.keepIn K (.ref f2) = true) (b2 : Binds K fd2 ["_law_pen_here", "_law_some"] []) (g2 : mg "_law_pick" = some (.ref f2))
    (m1 : mg "range" = none) (m2 : mg "tuple" = none) : FnOk P w K mg base CX0 (k + 1) f fd ["_law_pen_here", "_law_many"] (spLWt K) := by
  refine F.ok sc_l_worths (fun vs H Q E h => ?_) (fun cdv A outer s H vs Q E hr h => ?_)
  · obtain ⟨p, n, rfl, _⟩ := h; rfl
  · obtain ⟨p, n, rfl, hp, n1, n2, q⟩ := h
    refine ⟨_, pss_cons (ps_setLc (i := 2) (own := [("_law_turn", 3)]) (g := gName 3) (tt := tYes) rfl sc_l_worths.nd rfl rfl (sw_true rfl rfl rfl (by decide +kernel)) (pi_range1 (by rfl) m1 (pa_cons (pv 1) pa_nil))
          (blkOk_by (N := ["_law_pen_here", "_law_many", "_law_some", "_law_turn"]) (sc := defScope s_l_worths) (by decide +kernel))
          (fun _ _ _ _ _ => pg_name (i := 3) sc_l_worths.nd rfl (Or.inl rfl)) (fun _ _ _ _ _ => pts_nil)
          (fun _ _ _ _ _ => pe_call G2 hr (by rfl) g2 kp2 b2 .nil pass0 (pa_cons (pv 0) (pa_cons (pe_lst (pa_cons pe_int (pa_cons pe_int (pa_cons pe_int (pa_cons pe_int (pa_cons pe_int (pa_cons pe_int (pa_cons pe_int pa_nil)))))))) pa_nil))))
      (pss_cons (ps_asg (pe_op op_add pe_int (pe_call G1 hr (by rfl) g1 kp1 b1 .nil pass0 (pa_cons (pv 0) (pa_cons pe_int pa_nil)))) (pg_sub (pv 2) (pe_call G1 hr (by rfl) g1 kp1 b1 .nil pass0 (pa_cons (pv 0) (pa_cons (pv 1) pa_nil))) set_list))
      (pss_one (ps_ret (pe_callTy call_tuple_of (by rfl) m2 (by decide +kernel) (pa_cons (pv 2) pa_nil))))), ?_⟩
    refine ⟨.int (n : Nat), rfl, (n : Nat), rfl, by omega, by omega, fun D hD => ?_⟩
    have nDp : D ≠ p := (hp.ne hD).symm
    refine lc_range (lo := 0) (n := ((n : Nat) : Int).toNat) (fun i H' => PenAt H' p ∧ But p H H' ∧ ∃ ns : List Int, ns.length = i ∧ (∀ x ∈ ns, 0 ≤ x ∧ x ≤ 20) ∧ H' D = some (.lst (ns.map V.int)))
      ⟨hp.new hD, .of (same_new hD), [], rfl, (fun x hx => (nomatch hx)), upd_same⟩ (fun i H' hi h => ?_) (fun H' h => ?_)
    · obtain ⟨p4, c4, ns, hlen, hall, hDl⟩ := h
      refine ⟨rfl, .ref p, rfl, by show 7 ≤ sizeLine; decide, fun l nl => ⟨p, l, [0, 1, 1, 2, 3, 5, 20], rfl, p4.new nl, (p4.ne nl).symm, upd_same, by decide, by decide, fun H5 z hz p5 b5 => ?_⟩⟩
      have c5 : But p H' H5 := (But.of (same_new nl)).trans b5
      have hz1 : 0 ≤ z ∧ z ≤ 20 := by
        have : ∀ y ∈ ([0, 1, 1, 2, 3, 5, 20] : List Int), 0 ≤ y ∧ y ≤ 20 := by decide
        exact this z hz
      refine ⟨_, c5 _ _ nDp hDl, ?_, p5.upd nDp.symm, fun b o nb e => ?_, ns ++ [z], ?_, fun x hx => ?_, ?_⟩
      · rw [List.length_map]
        exact small1000 (by omega)
      · rw [upd_ne (ne_of_none e hD)]
        exact c5 _ _ nb (c4 _ _ nb e)
      · rw [List.length_append, hlen]
        rfl
      · rcases List.mem_append.mp hx with y | y
        · exact hall x y
        · rw [List.mem_singleton.mp y]; exact hz1
      · rw [upd_same, List.map_append]; rfl
    · obtain ⟨p4, c4, ns, hlen, hall, hDl⟩ := h
      rw [Int.toNat_natCast] at hlen
      refine ⟨.ref p, rfl, p, 20, rfl, p4, by decide, by decide, fun H5 r r0 r1 p5 c5 => ⟨1, r, rfl, rfl, ?_⟩⟩
      refine ⟨.ref D, rfl, .ref p, rfl, .int (n : Nat), rfl, p, (n : Nat), rfl, p5, by omega, by omega, fun H6 j j0 j1 p6 c6 => ?_⟩
      obtain ⟨jn, rfl⟩ : ∃ jn : Nat, j = jn := ⟨j.toNat, by omega⟩
      have hD6 := c6 _ _ nDp (c5 _ _ nDp hDl)
      have lns : (ns.map V.int).length = ns.length := List.length_map _
      have ix : ixN (ns.map V.int).length ((jn : Nat) : Int) = some jn := by
        unfold ixN
        rw [if_pos (by omega), if_pos (by omega), Int.toNat_natCast]
      refine ⟨D, _, _, jn, rfl, rfl, hD6, ix, ?_⟩
      rw [show (ns.map V.int).set jn (.int (1 + r)) = (ns.set jn (1 + r)).map V.int from by rw [List.map_set]]
      have hD7 : (L2.upd H6 D (.lst ((ns.set jn (1 + r)).map V.int))) D = some (.lst ((ns.set jn (1 + r)).map V.int)) := upd_same
      have p7 : PenAt (L2.upd H6 D (.lst ((ns.set jn (1 + r)).map V.int))) p := p6.upd nDp.symm
      have c7 : But p H (L2.upd H6 D (.lst ((ns.set jn (1 + r)).map V.int))) := fun b o nb e => by
        rw [upd_ne (ne_of_none e hD)]
        exact c6 _ _ nb (c5 _ _ nb (c4 _ _ nb e))
      generalize L2.upd H6 D (.lst ((ns.set jn (1 + r)).map V.int)) = H7 at hD7 p7 c7 ⊢
      have mem : ∀ x ∈ ns.set jn (1 + r), 0 ≤ x ∧ x ≤ 20 := fun x hx => by
        rcases List.mem_or_eq_of_mem_set hx with y | y
        · exact hall x y
        · omega
      refine ⟨.ref D, rfl, D, _, rfl, .inl ⟨.of hD7, fun t nt => ?_⟩⟩
      refine q _ t _ (p7.new nt) (c7.trans (.of (same_new nt))) (hp.free p7 c7 nt) (.of upd_same) ⟨by rw [List.length_set]; exact hlen, mem, ?_⟩
      refine sum_pos (fun x hx => (mem x hx).1) (y := 1 + r) ?_ (by omega)
      exact List.mem_of_getElem? (i := jn) (by rw [List.getElem?_set_self (by omega)])
end
end Sg
set_option Elab.async false
set_option linter.all false
set_option maxRecDepth 100000
set_option maxHeartbeats 4000000
namespace Sg
open PySem PySem.Spec PyProof.Rows L2 StX
theorem call_len_sK {X : Cx} {K : PySem.W.Frag} (hK : X.K = K) : CallR X (.builtin "len") (fun xs H Q => ∃ (a : Addr) (ys : List V), xs = [.ref a] ∧ SqT K H a ys ∧ Q (.int (ys.length : Nat)) H) := by
  subst hK
  intro pins s σ H xs us Q I r h
  obtain ⟨a, ys, rfl, hs, q⟩ := h
  exact call_len_seq pins s σ H _ us Q I r ⟨a, ys, rfl, .inr hs, q⟩
section
variable {P : Program} {w : World} {K : PySem.W.Frag} {mg : Str → Option Value} {base : Heap}
def spLIs (K : PySem.W.Frag) (R : Nat → PyData → Prop) : Sp := fun vs H Q _ => ∃ (t : Addr) (zs : List V) (v : V) (d : PyData), vs = [.ref t, v] ∧ SqT K H t zs ∧ Aq K H v d ∧ d.bulk ≤ 900 ∧ ∀ H' b, Same H H' → (b = true ↔ R zs.length d) → Q (.bl b) H'
theorem ok_l_is_lap {f f1 : Addr} {fd fd1 : FuncData} {k : Nat} (F : Fun K "_law_is_lap" "_law_is_lap" s_l_is_lap f fd)
    (G1 : FnOk P w K mg base CX0 k f1 fd1 ["_law_thing", "_law_low_here", "_law_high"] (spBetA K)) (kp1 : PySem.W.keepIn K (.ref f1) = true) (b1 : Binds K fd1 ["_law_thing", "_law_low_here", "_law_high"] []) (g1 : mg "_law_is_whole" = some (.ref f1))
    (m1 : mg "isinstance" = none) (m2 : mg "tuple" = none) (m3 : mg "len" = none) :
    FnOk P w K mg base CX0 (k + 1) f fd ["_law_works_here", "_law_thing"] (spLIs K LapD) := by
  refine F.ok sc_l_is_lap (fun vs H Q E h => ?_) (fun cdv A outer s H vs Q E hr h => ?_)
  · obtain ⟨t, zs, v, d, rfl, _⟩ := h; rfl
  · obtain ⟨t, zs, v, d, rfl, hZ, hd, hbk, q⟩ := h
    refine ⟨_, pss_cons (ps_if (PW.pt (pw_or (pt_not (pt_val (pe_callB call_isiA (by rfl) m1 (by decide +kernel) (pa_cons (pv 1) (pa_cons (pe_bltn (v := .ty "tuple") (by rfl) m2 (by decide +kernel) rfl) pa_nil)))))
          (pw_or1 (pt_cmpR (op_eqTNil (K := K) rfl hr.units0) (pv 1) (pe_tup pa_nil) (nomark _)))))
        (pss_one (ps_ret pe_bl)) pss_nil)
      (pss_one (ps_ret (pe_cmpR (op_eqNil hr.units0) (pe_lc (own := [("_law_one", 2)]) (g := gName 2) rfl sc_l_is_lap.nd (pi_tup (pv 1)) (blkOk_by (N := ["_law_works_here", "_law_thing", "_law_one"]) (sc := defScope s_l_is_lap) (by decide +kernel))
            (fun _ _ _ _ _ => pg_name (i := 2) sc_l_is_lap.nd rfl (Or.inl rfl))
            (fun _ _ _ _ _ => pts_one (pt_not (pt_val (pe_call G1 hr (by rfl) g1 kp1 b1 .nil pass0 (pa_cons (pv 2) (pa_cons (pe_un un_neg pe_int) (pa_cons (pe_op op_sub (pe_callB (call_len_sK (K := K) rfl) (by rfl) m3 PySem.boot_len (pa_cons (pv 0) pa_nil)) pe_int) pa_nil)))))))
            (fun _ _ _ _ _ => pv 2)) (pe_lst pa_nil) (nomark _)))), ?_⟩
    refine ⟨v, rfl, v, d, "tuple", rfl, hd, .inl rfl, isB "tuple" d, rfl, ?_⟩
    cases ht : isB "tuple" d with
    | false =>
      refine iteT (q H false (same_refl H) ⟨(fun z => nomatch z), fun ⟨ns, z, _⟩ => ?_⟩)
      rw [z] at ht; exact nomatch ht
    | true =>
      obtain ⟨ds, rfl⟩ := isB_tup.mp ht
      obtain ⟨a, xs, rfl, hS, hA⟩ : ∃ a xs, v = .ref a ∧ SqT K H a xs ∧ DpAll K H xs ds := by
        cases hd with
        | data hd => cases hd with
          | tup h1 h2 => exact ⟨_, _, rfl, h1, h2⟩
      have lx := DpAll.len hA
      have l9 := tup_short hbk
      refine iteF ⟨.ref a, rfl, by show 0 ≤ sizeLine; omega, fun e ne => ⟨a, e, xs, rfl, rfl, Same.tup (same_new ne) hS, .of upd_same, _, rfl, ?_⟩⟩
      have s1 : Same H (upd H e (.tup [])) := same_new ne
      generalize upd H e (.tup []) = H1 at s1 ⊢
      have hS1 := Same.tup s1 hS
      have hA1 := DpAll.same s1 hA
      cases hx : xs.isEmpty with
      | true =>
        refine iteT (q H1 false s1 ⟨(fun z => nomatch z), fun ⟨ns, z, g⟩ => ?_⟩)
        have e := PyData.tuple.inj z
        have := g.pos
        rw [List.isEmpty_iff.mp hx, e] at lx
        rw [List.length_map] at lx
        simp at lx
        omega
      | false =>
        refine iteF ⟨.ref a, rfl, a, rfl, ⟨_, hS1⟩, fun D hD => ?_⟩
        refine lc_tup (xs := xs) (fun i H' => Same H1 H' ∧ ∃ acc, H' D = some (.lst acc) ∧ acc.length ≤ i ∧ (acc = [] ↔ ∀ z ∈ ds.take i, betD z (-1) ((zs.length : Nat) - 1) = true)) ⟨same_new hD, [], upd_same, Nat.le_refl _, by simp⟩ (fun i H' _ h => Same.tup h.1 hS1) (fun i x H' hx h => ?_) (fun H' h => ?_)
        · obtain ⟨sm, acc, hac, hal, hall⟩ := h
          obtain ⟨dd, hdd, hxd⟩ := DpAll.at hA1 hx
          have hil := (List.getElem?_eq_some_iff.mp hdd).1
          have htk : ds.take (i + 1) = ds.take i ++ [dd] := by rw [List.take_add_one, hdd]; rfl
          refine ⟨rfl, x, rfl, 1, rfl, .ref t, rfl, t, zs, rfl, Same.tup (s1.trans sm) hZ, _, 1, rfl, rfl, x, dd, -1, _, rfl, .data (Dp.same sm hxd), betD dd (-1) ((zs.length : Nat) - 1), rfl, ?_⟩
          cases hb : betD dd (-1) ((zs.length : Nat) - 1) with
          | true =>
            refine iteF ⟨sm, acc, hac, by omega, hall.trans ⟨fun h z hz => ?_, fun h z hz => h z (by rw [htk]; exact List.mem_append_left _ hz)⟩⟩
            rw [htk] at hz
            rcases List.mem_append.mp hz with hz | hz
            · exact h z hz
            · rw [List.mem_singleton.mp hz]; exact hb
          | false =>
            refine iteT ⟨x, rfl, acc, hac, small1000 (by omega), ?_⟩
            refine ⟨fun b o e => ?_, _, upd_same, by rw [List.length_append]; show acc.length + 1 ≤ i + 1; omega, ⟨fun z => absurd z (by simp), fun h => ?_⟩⟩
            · rw [upd_ne (ne_of_none e hD)]; exact sm _ _ e
            · have := h dd (by rw [htk]; exact List.mem_append_right _ List.mem_cons_self)
              rw [hb] at this
              exact nomatch this
        · obtain ⟨sm, acc, hac, hal, hall⟩ := h
          refine ⟨by show 0 ≤ sizeLine; omega, fun p hp => ?_⟩
          have nDp : D ≠ p := ne_of_none hac hp
          have sm' : Same H (upd H' p (.lst [])) := (s1.trans sm).trans (same_new hp)
          refine ⟨D, p, acc, rfl, rfl, .of (by rw [upd_ne nDp]; exact hac), .of upd_same, ?_⟩
          rw [lx, List.take_length] at hall
          refine q _ _ sm' (List.isEmpty_iff.trans (hall.trans ⟨fun h => ?_, fun ⟨lp, e, g⟩ => ?_⟩))
          · obtain ⟨ns, rfl, hns⟩ := all_ints h
            have hne : xs ≠ [] := fun z => by rw [z] at hx; exact nomatch hx
            have := List.length_pos_iff.mpr hne
            rw [List.length_map] at lx l9
            exact ⟨ns, rfl, by omega, l9, fun x hx => by have := hns x hx; omega⟩
          · intro z hz
            rw [PyData.tuple.inj e] at hz
            exact ints_bet (fun x hx => by have := g.items x hx; omega) z hz
/-! ### _law_are_worths -/
theorem ok_l_are_worths {f f1 : Addr} {fd fd1 : FuncData} {k : Nat} (F : Fun K "_law_are_worths" "_law_are_worths" s_l_are_worths f fd)
    (G1 : FnOk P w K mg base CX0 k f1 fd1 ["_law_thing", "_law_low_here", "_law_high"] (spBetA K)) (kp1 : PySem.W.keepIn K (.ref f1) = true) (b1 : Binds K fd1 ["_law_thing", "_law_low_here", "_law_high"] []) (g1 : mg "_law_is_whole" = some (.ref f1))
    (m1 : mg "isinstance" = none) (m2 : mg "tuple" = none) (m3 : mg "len" = none) (m4 : mg "sum" = none) :
    FnOk P w K mg base CX0 (k + 1) f fd ["_law_works_here", "_law_thing"] (spLIs K WtD) := by
  refine F.ok sc_l_are_worths (fun vs H Q E h => ?_) (fun cdv A outer s H vs Q E hr h => ?_)
  · obtain ⟨t, zs, v, d, rfl, _⟩ := h; rfl
  · obtain ⟨t, zs, v, d, rfl, hZ, hd, hbk, q⟩ := h
    refine ⟨_, pss_cons (ps_if (PW.pt (pw_or (pt_not (pt_val (pe_callB call_isiA (by rfl) m1 (by decide +kernel) (pa_cons (pv 1) (pa_cons (pe_bltn (v := .ty "tuple") (by rfl) m2 (by decide +kernel) rfl) pa_nil)))))
          (pw_or1 (pt_cmpR op_ne (pe_callB (call_len_sK (K := K) rfl) (by rfl) m3 PySem.boot_len (pa_cons (pv 1) pa_nil)) (pe_callB (call_len_sK (K := K) rfl) (by rfl) m3 PySem.boot_len (pa_cons (pv 0) pa_nil)) (nomark _)))))
        (pss_one (ps_ret pe_bl)) pss_nil)
      (pss_one (ps_ret (pe_and (pe_cmpR (op_eqNil hr.units0) (pe_lc (own := [("_law_one", 2)]) (g := gName 2) rfl sc_l_are_worths.nd (pi_tup (pv 1)) (blkOk_by (N := ["_law_works_here", "_law_thing", "_law_one"]) (sc := defScope s_l_are_worths) (by decide +kernel))
            (fun _ _ _ _ _ => pg_name (i := 2) sc_l_are_worths.nd rfl (Or.inl rfl))
            (fun _ _ _ _ _ => pts_one (pt_not (pt_val (pe_call G1 hr (by rfl) g1 kp1 b1 .nil pass0 (pa_cons (pv 2) (pa_cons pe_int (pa_cons pe_int pa_nil)))))))
            (fun _ _ _ _ _ => pv 2)) (pe_lst pa_nil) (nomark _))
        (pe_one (pe_cmpR op_gt (pe_callB (cr_sumT rfl) (by rfl) m4 (by decide +kernel) (pa_cons (pv 1) pa_nil)) pe_int (nomark _)))))), ?_⟩
    refine ⟨v, rfl, v, d, "tuple", rfl, hd, .inl rfl, isB "tuple" d, rfl, ?_⟩
    cases ht : isB "tuple" d with
    | false =>
      refine iteT (q H false (same_refl H) ⟨(fun z => nomatch z), fun ⟨ns, z, _⟩ => ?_⟩)
      rw [z] at ht; exact nomatch ht
    | true =>
      obtain ⟨ds, rfl⟩ := isB_tup.mp ht
      obtain ⟨a, xs, rfl, hS, hA⟩ : ∃ a xs, v = .ref a ∧ SqT K H a xs ∧ DpAll K H xs ds := by
        cases hd with
        | data hd => cases hd with
          | tup h1 h2 => exact ⟨_, _, rfl, h1, h2⟩
      have lx := DpAll.len hA
      have l9 := tup_short hbk
      refine iteF ⟨.ref a, rfl, a, xs, rfl, hS, .ref t, rfl, t, zs, rfl, hZ, rfl, _, rfl, ?_⟩
      by_cases c0 : xs.length = zs.length
      case neg =>
        rw [show (!decide (V.int ((xs.length : Nat) : Int) = V.int ((zs.length : Nat) : Int))) = true from by rw [decide_eq_false fun z => c0 (by have := V.int.inj z; omega)]; rfl]
        refine iteT (q H false (same_refl H) ⟨(fun z => nomatch z), fun ⟨ns, z, g⟩ => ?_⟩)
        have e := PyData.tuple.inj z
        have := g.len
        rw [e, List.length_map] at lx
        omega
      rw [show (!decide (V.int ((xs.length : Nat) : Int) = V.int ((zs.length : Nat) : Int))) = false from by rw [c0, decide_eq_true rfl]; rfl]
      refine iteF ⟨.ref a, rfl, a, rfl, ⟨_, hS⟩, fun D hD => ?_⟩
      refine lc_tup (xs := xs) (fun i H' => Same H H' ∧ ∃ acc, H' D = some (.lst acc) ∧ acc.length ≤ i ∧ (acc = [] ↔ ∀ z ∈ ds.take i, betD z 0 20 = true)) ⟨same_new hD, [], upd_same, Nat.le_refl _, by simp⟩ (fun i H' _ h => Same.tup h.1 hS) (fun i x H' hx h => ?_) (fun H' h => ?_)
      · obtain ⟨sm, acc, hac, hal, hall⟩ := h
        obtain ⟨dd, hdd, hxd⟩ := DpAll.at hA hx
        have hil := (List.getElem?_eq_some_iff.mp hdd).1
        have htk : ds.take (i + 1) = ds.take i ++ [dd] := by rw [List.take_add_one, hdd]; rfl
        refine ⟨rfl, x, rfl, x, dd, 0, 20, rfl, .data (Dp.same sm hxd), betD dd 0 20, rfl, ?_⟩
        cases hb : betD dd 0 20 with
        | true =>
          refine iteF ⟨sm, acc, hac, by omega, hall.trans ⟨fun h z hz => ?_, fun h z hz => h z (by rw [htk]; exact List.mem_append_left _ hz)⟩⟩
          rw [htk] at hz
          rcases List.mem_append.mp hz with hz | hz
          · exact h z hz
          · rw [List.mem_singleton.mp hz]; exact hb
        | false =>
          refine iteT ⟨x, rfl, acc, hac, small1000 (by omega), ?_⟩
          refine ⟨fun b o e => ?_, _, upd_same, by rw [List.length_append]; show acc.length + 1 ≤ i + 1; omega, ⟨fun z => absurd z (by simp), fun h => ?_⟩⟩
          · rw [upd_ne (ne_of_none e hD)]; exact sm _ _ e
          · have := h dd (by rw [htk]; exact List.mem_append_right _ List.mem_cons_self)
            rw [hb] at this
            exact nomatch this
      · obtain ⟨sm, acc, hac, hal, hall⟩ := h
        refine ⟨by show 0 ≤ sizeLine; omega, fun p hp => ?_⟩
        have nDp : D ≠ p := ne_of_none hac hp
        have sm' : Same H (upd H' p (.lst [])) := sm.trans (same_new hp)
        refine ⟨D, p, acc, rfl, rfl, .of (by rw [upd_ne nDp]; exact hac), .of upd_same, acc.isEmpty, rfl, ?_⟩
        rw [lx, List.take_length] at hall
        cases he : acc.isEmpty with
        | false =>
          refine iteF (q _ false sm' ⟨(fun z => nomatch z), fun ⟨wt, e, g⟩ => ?_⟩)
          have : acc = [] := hall.mpr fun z hz => by
            rw [PyData.tuple.inj e] at hz
            exact ints_bet (fun x hx => g.items x hx) z hz
          rw [this] at he
          exact nomatch he
        | true =>
          obtain ⟨ns, rfl, hns⟩ := all_ints (hall.mp (List.isEmpty_iff.mp he))
          obtain rfl := dpInts_v hA
          refine iteT ⟨.ref a, rfl, a, ns, rfl, Same.tup sm' hS, _, 0, rfl, rfl, ?_⟩
          refine q _ _ sm' ⟨fun hs => ⟨ns, rfl, ?_, hns, of_decide_eq_true hs⟩, fun ⟨wt, e, g⟩ => ?_⟩
          · rw [List.length_map] at c0; exact c0
          · rw [tD_inj e]
            exact decide_eq_true g.some_
end
end Sg
set_option Elab.async false
set_option linter.all false
set_option maxRecDepth 100000
set_option maxHeartbeats 4000000
namespace Sg
open PySem PySem.Spec PyProof.Rows L2 StX
section
variable {P : Program} {w : World} {K : PySem.W.Frag} {mg : Str → Option Value} {base : Heap}
/-! ### _law_odds -/
/-- a list of some data, made of what is new -/
def spAnysS (K : PySem.W.Frag) : Sp := fun vs H Q _ => vs = [] ∧ ∀ H' l xs, Same H H' → H l = none → H' l = some (.lst xs) → AllS K (nw H H') xs → xs.length ≤ 100 → Q (.ref l) H'
/-- from H0 on: a list of some data at l -/
def AnySL (K : PySem.W.Frag) (H0 H : Hp) (n : Nat) (l : Addr) : Prop := ∃ xs, Same H0 H ∧ H0 l = none ∧ H l = some (.lst xs) ∧ AllS K (nw H0 H) xs ∧ xs.length = n
theorem AnySL.cat {H0 H H' : Hp} {n m : Nat} {l l' : Addr} (h : AnySL K H0 H n l) (g : AnySL K H H' m l') (e : n + m ≤ 1000) {Q : VK} (q : ∀ H'' p, AnySL K H0 H'' (n + m) p → Q (.ref p) H'') : rCat (.ref l) (.ref l') H' Q := by
  obtain ⟨xs, a1, a2, a3, a4, a5⟩ := h
  obtain ⟨ys, b1, b2, b3, b4, b5⟩ := g
  have big : 1000 ≤ sizeLine := by rw [sizeLine_eq]; decide
  refine ⟨l, l', xs, ys, rfl, rfl, b1 _ _ a3, b3, by omega, fun p np => q _ p ⟨xs ++ ys, a1.trans (b1.trans (same_new np)), same_none (a1.trans b1) np, upd_same, ?_, by rw [List.length_append]; omega⟩⟩
  refine AllS.app (a4.same (nw_same (b1.trans (same_new np)))) ((b4.same (nw_left a1)).same (nw_same (same_new np)))
theorem ok_l_odds {f : Addr} {fd : FuncData} {k : Nat} (F : Fun K "_law_odds" "_law_odds" s_l_odds f fd) : FnOk P w K mg base CX0 (k + 1) f fd [] (spAnysS K) := by
  refine F.ok sc_l_odds (fun vs H Q E h => ?_) (fun cdv A outer s H vs Q E hr h => ?_)
  · rw [h.1]; rfl
  · obtain ⟨rfl, q⟩ := h
    refine ⟨_, pss_cons (ps_set (i := 0) sc_l_odds.nd rfl (.inl rfl) (pe_anySL (n := 20) (by decide +kernel) rfl (by decide)))
      (pss_cons (ps_set (i := 0) sc_l_odds.nd rfl (.inl rfl) (pe_op op_cat (pv 0) (pe_anySL (n := 11) (by decide +kernel) rfl (by decide))))
      (pss_cons (ps_set (i := 0) sc_l_odds.nd rfl (.inl rfl) (pe_op op_cat (pv 0) (pe_anySL (n := 9) (by decide +kernel) rfl (by decide))))
      (pss_cons (ps_set (i := 0) sc_l_odds.nd rfl (.inl rfl) (pe_op op_cat (pv 0) (pe_anySL (n := 9) (by decide +kernel) rfl (by decide))))
      (pss_one (ps_ret (pe_op op_cat (pv 0) (pe_anySL (n := 9) (by decide +kernel) rfl (by decide)))))))), ?_⟩
    refine fun H1 l1 x1 a1 a2 a3 a4 a5 => ⟨.ref l1, rfl, fun H2 l2 x2 b1 b2 b3 b4 b5 => AnySL.cat (K := K) ⟨x1, a1, a2, a3, a4, a5⟩ ⟨x2, b1, b2, b3, b4, b5⟩ (by decide) fun H3 p3 A3 => ?_⟩
    refine ⟨.ref p3, rfl, fun H2 l2 x2 b1 b2 b3 b4 b5 => A3.cat ⟨x2, b1, b2, b3, b4, b5⟩ (by decide) fun H5 p5 A5 => ?_⟩
    refine ⟨.ref p5, rfl, fun H2 l2 x2 b1 b2 b3 b4 b5 => A5.cat ⟨x2, b1, b2, b3, b4, b5⟩ (by decide) fun H7 p7 A7 => ?_⟩
    refine ⟨.ref p7, rfl, fun H2 l2 x2 b1 b2 b3 b4 b5 => A7.cat ⟨x2, b1, b2, b3, b4, b5⟩ (by decide) fun H9 p9 A9 => ?_⟩
    obtain ⟨xs, a1, a2, a3, a4, a5⟩ := A9
    exact q H9 p9 xs a1 a2 a3 a4 (by omega)
/-! ### _law_great -/
/-- a list of some data, made of what is new -/
def spAnys (K : PySem.W.Frag) : Sp := fun vs H Q _ => vs = [] ∧ ∀ H' l xs, Same H H' → H l = none → H' l = some (.lst xs) → AllAny K (nw H H') xs → xs.length ≤ 100 → Q (.ref l) H'
def deepD : Nat → PyData
  | 0 => .int 0
  | n + 1 => .tuple [deepD n]
theorem rep_any {H0 H : Hp} {p : Addr} {i : Int} {n : Nat} (h0 : H0 p = none) (hi : i = 0 ∨ i = -1) (hn : n ≤ 4000) : AnyV K (nw H0 (upd H p (.tup (List.replicate n [V.int i]).flatten))) (.ref p) := by
  have sm : SmL 1 [PyData.int i] := by rcases hi with rfl | rfl <;> exact smL_by (by decide +kernel)
  exact ⟨.tuple (List.replicate n [.int i]).flatten, .data (.tup (.of ((nw_none h0).trans upd_same)) (DpAll.rep (.cons (.int i) .nil) n)), (sm.rep n).tup (by omega)⟩
theorem repl_any {H0 H : Hp} {p : Addr} {i : Int} {n : Nat} (h0 : H0 p = none) (hi : i = 0 ∨ i = -1) (hn : n ≤ 4000) : AnyV K (nw H0 (upd H p (.lst (List.replicate n [V.int i]).flatten))) (.ref p) := by
  have sm : SmL 1 [PyData.int i] := by rcases hi with rfl | rfl <;> exact smL_by (by decide +kernel)
  exact ⟨.list (List.replicate n [.int i]).flatten, .data (.lst (.of ((nw_none h0).trans upd_same)) (DpAll.rep (.cons (.int i) .nil) n)), (sm.rep n).lst (by omega)⟩
/-- the state of _law_great at its end -/
def GreatS (K : PySem.W.Frag) (H0 : Hp) (σ : L2.St) (H : Hp) : Prop := ∃ v x, σ = [some v, x] ∧ Same H0 H ∧ Tp K (nw H0 H) v (deepD 18)
theorem ok_l_great {f : Addr} {fd : FuncData} {k : Nat} (F : Fun K "_law_great" "_law_great" s_l_great f fd) (m1 : mg "range" = none) : FnOk P w K mg base CX0 (k + 1) f fd [] (spAnys K) := by
  refine F.ok sc_l_great (fun vs H Q E h => ?_) (fun cdv A outer s H vs Q E hr h => ?_)
  · rw [h.1]; rfl
  · obtain ⟨rfl, q⟩ := h
    have stS : ∀ σ H1 H2, Same H1 H2 → GreatS K H σ H1 → GreatS K H σ H2 := fun σ H1 H2 e ⟨v, x, e1, e2, e3⟩ => ⟨v, x, e1, e2.trans e, e3.stay (.of (nw_same e))⟩
    have stR : ∀ (H1 H2 : Hp) v, Same H1 H2 → AnyV K (nw H H1) v → AnyV K (nw H H2) v := fun H1 H2 v e h => h.same (nw_same e)
    have pos : ∀ {m : Nat}, m ≤ 100000 → m ≤ sizeLine := fun h => Nat.le_trans h (by rw [sizeLine_eq]; decide)
    refine ⟨_, pss_cons (ps_set (i := 0) sc_l_great.nd rfl (.inl rfl) pe_int)
      (pss_cons (ps_for PassesOwn.never rfl (pi_range1 (by rfl) m1 (pa_cons pe_int pa_nil)) (pg_name (i := 1) sc_l_great.nd rfl (.inl rfl))
        (pss_one (ps_set (i := 0) sc_l_great.nd rfl (.inl rfl) (pe_tup (pa_cons (pv 0) pa_nil)))))
      (pss_one (ps_ret (pe_lst (pa_e (S := GreatS K H) (R := fun H' v => AnyV K (nw H H') v) stS stR (PE.e (pv 0) fun σ H1 Q1 hS q1 => ?_)
        (pa_e stS stR (PE.e (pe_op op_repB (pe_tup (pa_cons pe_int pa_nil)) pe_int) fun σ H1 Q1 hS q1 => ?_)
        (pa_e stS stR (PE.e (pe_op op_rep (pe_lst (pa_cons pe_int pa_nil)) pe_int) fun σ H1 Q1 hS q1 => ?_)
        (pa_e stS stR (PE.e (pe_op op_repB (pe_tup (pa_cons (pe_un un_neg pe_int) pa_nil)) pe_int) fun σ H1 Q1 hS q1 => ?_)
        (pa_e stS stR (PE.e (pe_disp (pps_cons pe_int (pv 0) pps_nil) rfl rfl (fun z => nomatch z) (by show 1 ≤ 15; decide)) fun σ H1 Q1 hS q1 => ?_)
        (pa_e stS stR (PE.e (pe_tup (pa_cons (pe_op op_repB (pe_tup (pa_cons pe_int pa_nil)) pe_int) (pa_cons (pv 0) pa_nil))) fun σ H1 Q1 hS q1 => ?_)
        (pa_e stS stR (PE.e (pe_tup (pa_cons (pe_op op_mulS pe_str pe_int) pa_nil)) fun σ H1 Q1 hS q1 => ?_) pa_e0))))))))))), ?_⟩
    · obtain ⟨v, x, rfl, sm, hT⟩ := hS
      exact ⟨v, rfl, q1 H1 v (same_refl H1) ⟨_, .data (Tp.dp hT), good_by (by decide +kernel)⟩⟩
    · obtain ⟨v, x, rfl, sm, hT⟩ := hS
      refine ⟨pos (by decide), fun t nt => ⟨t, 3000, _, rfl, rfl, .of upd_same, (fun z => nomatch z), by decide, by decide, fun p np => ?_⟩⟩
      have e1 := (same_new (o := .tup [V.int 0]) nt).trans (same_new (o := .tup (List.replicate 3000 [V.int 0]).flatten) np)
      exact q1 _ _ e1 (rep_any (same_none (sm.trans (same_new nt)) np) (.inl rfl) (by decide))
    · obtain ⟨v, x, rfl, sm, hT⟩ := hS
      refine ⟨pos (by decide), fun t nt => ⟨t, 3000, _, rfl, rfl, upd_same, by decide, by decide, pos (by decide), fun p np => ?_⟩⟩
      have e1 := (same_new (o := .lst [V.int 0]) nt).trans (same_new (o := .lst (List.replicate 3000 [V.int 0]).flatten) np)
      exact q1 _ _ e1 (repl_any (same_none (sm.trans (same_new nt)) np) (.inl rfl) (by decide))
    · obtain ⟨v, x, rfl, sm, hT⟩ := hS
      refine ⟨1, rfl, pos (by decide), fun t nt => ⟨t, 2000, _, rfl, rfl, .of upd_same, (fun z => nomatch z), by decide, by decide, fun p np => ?_⟩⟩
      have e1 := (same_new (o := .tup [V.int (-1)]) nt).trans (same_new (o := .tup (List.replicate 2000 [V.int (-1)]).flatten) np)
      exact q1 _ _ e1 (rep_any (same_none (sm.trans (same_new nt)) np) (.inr rfl) (by decide))
    · obtain ⟨v, x, rfl, sm, hT⟩ := hS
      intro p np
      refine ⟨v, rfl, upd_same, [(.inl 0, v)], rfl, by show 1 ≤ 15; decide, ?_⟩
      have e2 : Same H1 (L2.upd (L2.upd H1 p (.dK [])) p (.dK (mergeK [] [(.inl 0, v)]))) := fun b o z => by
        rw [upd_ne (ne_of_none z np), upd_ne (ne_of_none z np)]; exact z
      exact q1 _ _ e2 ⟨.dict [(.int 0, deepD 18)], .dic ((nw_none (same_none sm np)).trans upd_same) (.one (hT.stay (.of (nw_same e2)))), good_by (by decide +kernel)⟩
    · obtain ⟨v, x, rfl, sm, hT⟩ := hS
      refine ⟨pos (by decide), fun t nt => ⟨t, 900, _, rfl, rfl, .of upd_same, (fun z => nomatch z), by decide, by decide, fun p np => ?_⟩⟩
      have e1 := (same_new (o := .tup [V.int 0]) nt).trans (same_new (o := .tup (List.replicate 900 [V.int 0]).flatten) np)
      have hp0 := same_none (sm.trans (same_new nt)) np
      have hp1 : (upd (upd H1 t (.tup [V.int 0])) p (.tup (List.replicate 900 [V.int 0]).flatten)) p = some (.tup (List.replicate 900 [V.int 0]).flatten) := upd_same
      generalize upd (upd H1 t (.tup [V.int 0])) p (.tup (List.replicate 900 [V.int 0]).flatten) = H2 at e1 hp1 ⊢
      refine ⟨v, rfl, pos (by show 2 ≤ 100000; decide), fun r nr => ?_⟩
      have sm2 := sm.trans e1
      refine q1 _ _ (e1.trans (same_new nr)) ⟨.tuple [.tuple (List.replicate 900 [PyData.int 0]).flatten, deepD 18], .data (.tup (.of ((nw_none (same_none sm2 nr)).trans upd_same)) (.cons (.tup (.of ?_) (DpAll.rep (.cons (.int 0) .nil) 900)) (.cons (Tp.dp (hT.stay (.of (nw_same (e1.trans (same_new nr)))))) .nil))), ?_⟩
      · rw [nw_none hp0]; exact same_new nr _ _ hp1
      · have s1 : SmL 1 [PyData.int 0] := smL_by (by decide +kernel)
        have s2 : SmL 2000 [PyData.tuple (List.replicate 900 [PyData.int 0]).flatten] := SmL.one ((s1.rep 900).tup (by decide)) (by decide +kernel) (by have := (s1.rep 900).bk; simp only [PyData.bulk]; omega)
        have s3 : SmL 2000 [deepD 18] := smL_by (by decide +kernel)
        exact (SmL.cons s2 s3).tup (by decide)
    · obtain ⟨v, x, rfl, sm, hT⟩ := hS
      refine ⟨_, 900, rfl, rfl, by decide, by decide, by decide, pos (by decide), fun t nt => ?_⟩
      refine q1 _ _ (same_new nt) ⟨.tuple [.str (repS _ 900)], .data (.tup (.of ((nw_none (same_none sm nt)).trans upd_same)) (.cons (.str _) .nil)), (smL_rep (by decide +kernel)).tup (by decide)⟩
    · refine ⟨18, rfl, by decide, by decide, ?_⟩
      refine for_range (lo := 0) (n := 18) (fun i σ H' => ∃ v x, σ = [some v, x] ∧ Same H H' ∧ Tp K (nw H H') v (deepD i)) ⟨.int 0, _, rfl, same_refl H, .int 0⟩ ?_ ?_
      · rintro i σ H5 hi ⟨v, x, rfl, sm, hT⟩
        refine ⟨v, rfl, pos (by show 1 ≤ 100000; decide), fun t nt => ⟨.ref t, _, rfl, sm.trans (same_new nt), ?_⟩⟩
        exact .tu (.of ((nw_none (same_none sm nt)).trans upd_same)) (.on (hT.stay (.of (nw_same (same_new nt)))) .no)
      · rintro σ H5 ⟨v, x, rfl, sm, hT⟩
        refine ⟨⟨v, x, rfl, sm, hT⟩, fun H6 vs e6 hvs hl => ⟨pos (by omega), fun l nl => ?_⟩⟩
        exact q _ l vs ((sm.trans e6).trans (same_new nl)) (same_none (sm.trans e6) nl) upd_same (AllAny.same (nw_same (same_new nl)) hvs) (by omega)
end
end Sg
set_option Elab.async false
set_option linter.all false
set_option maxRecDepth 100000
set_option maxHeartbeats 4000000
namespace Sg
open PySem PySem.Spec PyProof.Rows L2 StX
def smallW : List Int := (List.range 22).map fun i => ((i : Nat) : Int) - 1
theorem small_tableW : ∀ i ∈ smallW, smB 1 [.int i] = true := by decide +kernel
theorem mem_smallW {i : Int} (h : -1 ≤ i ∧ i ≤ 20) : i ∈ smallW := by
  unfold smallW
  exact List.mem_map.mpr ⟨(i + 1).toNat, List.mem_range.mpr (by omega), by omega⟩
theorem smL_intsW {ns : List Int} (h : ∀ x ∈ ns, -1 ≤ x ∧ x ≤ 20) : SmL ns.length (iD ns) := by
  induction ns with
  | nil => exact SmL.nil
  | cons n ns ih =>
    refine (SmL.cons (smL_by (small_tableW n (mem_smallW (h n List.mem_cons_self)))) (ih fun x hx => h x (List.mem_cons_of_mem _ hx))).le ?_
    rw [List.length_cons]; omega
theorem SmL.tupS {k : Nat} {ds : List PyData} (h : SmL k ds) (e : k ≤ 900) : GoodD (.tuple ds) ∧ (PyData.tuple ds).bulk ≤ 900 := ⟨h.tup (by omega), by simp only [PyData.bulk]; exact Nat.le_trans h.bk e⟩
theorem SmL.lstS {k : Nat} {ds : List PyData} (h : SmL k ds) (e : k ≤ 900) : GoodD (.list ds) ∧ (PyData.list ds).bulk ≤ 900 := ⟨h.lst (by omega), by simp only [PyData.bulk]; exact Nat.le_trans h.bk e⟩
theorem str_table : ∀ i ∈ smallW, smB 5 [.str (toString i : String)] = true ∧ i.natAbs.log2 < 1920 := by decide +kernel
section
variable {P : Program} {w : World} {K : PySem.W.Frag} {mg : Str → Option Value} {base : Heap}
/-! ### _law_pick -/
def spPickA : Sp := fun vs H Q _ => ∃ (p l : Addr) (xs : List V), vs = [.ref p, .ref l] ∧ PenAt H p ∧ H l = some (.lst xs) ∧ l ≠ p ∧ xs ≠ [] ∧ xs.length ≤ 1000 ∧ ∀ H' x, x ∈ xs → PenAt H' p → But p H H' → Q x H'
theorem ok_l_pickA {f f1 : Addr} {fd fd1 : FuncData} {k : Nat} (F : Fun K "_law_pick" "_law_pick" s_l_pick f fd)
    (G1 : FnOk P w K mg base CX0 k f1 fd1 ["_law_pen_here", "_law_many"] spDraw) (kp1 : PySem.W.keepIn K (.ref f1) = true) (b1 : Binds K fd1 ["_law_pen_here", "_law_many"] []) (g1 : mg "_law_draw" = some (.ref f1)) (m1 : mg "len" = none) :
    FnOk P w K mg base CX0 (k + 1) f fd ["_law_pen_here", "_law_some"] spPickA := by
  refine F.ok sc_l_pick (fun vs H Q E h => ?_) (fun cdv A outer s H vs Q E hr h => ?_)
  · obtain ⟨p, l, xs, rfl, _⟩ := h; rfl
  · obtain ⟨p, l, xs, rfl, hp, hl, nlp, hne, hz, q⟩ := h
    refine ⟨_, pss_one (ps_ret (pe_ix ix_list (pv 1) (pe_call G1 hr (by rfl) g1 kp1 b1 .nil pass0 (pa_cons (pv 0) (pa_cons (pe_callB call_len_seq (by rfl) m1 PySem.boot_len (pa_cons (pv 1) pa_nil)) pa_nil))) (fun _ _ => rfl))), ?_⟩
    have h0 := List.length_pos_iff.mpr hne
    refine ⟨.ref l, rfl, .ref p, rfl, .ref l, rfl, l, xs, rfl, .inl (.of hl), p, _, rfl, hp, by omega, by omega, fun H' r r0 r1 p' e' => ?_⟩
    obtain ⟨i, rfl⟩ : ∃ i : Nat, r = i := ⟨r.toNat, by omega⟩
    have hi : i < xs.length := by omega
    exact ⟨l, xs, (i : Nat), xs[i], rfl, rfl, .of (e' _ _ nlp hl), atI_nat (List.getElem?_eq_getElem hi), q H' _ (List.getElem_mem hi) p' e'⟩
/-! ### _law_bend -/
/-- the state of _law_bend, behind its draws; H0: the heap it is called at -/
structure BendH (K : PySem.W.Frag) (H0 : Hp) (p a : Addr) (ns : List Int) (v1 : V) (H : Hp) : Prop where
  pen : PenAt H p
  row : SqT K H a (ns.map V.int)
  one : SmV K (wl H0 H) v1
  bt : But p H0 H
theorem BendH.same {H0 : Hp} {p a : Addr} {ns : List Int} {v1 : V} {H H' : Hp} (h : BendH K H0 p a ns v1 H) (e : Same H H') : BendH K H0 p a ns v1 H' := ⟨h.pen.same e, Same.tup e h.row, h.one.same (wl_same e), h.bt.trans (.of e)⟩
def BendS (K : PySem.W.Frag) (H0 : Hp) (p a : Addr) (ns : List Int) (v1 : V) (sp : Nat) (x4 : Option V) (σ : L2.St) (H : Hp) : Prop := σ = [some (.ref p), some (.ref a), some v1, some (.int sp), x4, none] ∧ BendH K H0 p a ns v1 H
def BendR (K : PySem.W.Frag) (H0 : Hp) (H : Hp) (v : V) : Prop := AnyS K (wl H0 H) v
/-- a tuple of what may be shown -/
theorem tup_anyW {H0 : Hp} {p b : Addr} {H : Hp} {xs : List V} {ds : List PyData} {k : Nat} (hp : PenAt H p) (bt : But p H0 H) (h : SqT K H b xs) (hd : DpAll K (wl H0 H) xs ds) (g : SmL k ds) (e : k ≤ 900) : AnyS K (wl H0 H) (.ref b) :=
  ⟨_, .data (.tup (hp.wl bt h) hd), g.tupS e⟩
theorem tup_ints {H0 : Hp} {p b : Addr} {H : Hp} {ns : List Int} (hp : PenAt H p) (bt : But p H0 H) (h : SqT K H b (ns.map V.int)) (hn : ∀ x ∈ ns, -1 ≤ x ∧ x ≤ 20) (hl : ns.length ≤ 900) : AnyS K (wl H0 H) (.ref b) :=
  tup_anyW hp bt h (dpInts ns) (smL_intsW hn) (by omega)
theorem cut_len {xs : List V} {lo hi : Option Int} : (cutV xs lo hi).length ≤ xs.length := by
  unfold cutV
  rw [List.length_take, List.length_drop]; omega
variable {H0 : Hp} {p a : Addr} {ns : List Int} {v1 : V} {sp : Nat} {x4 : Option V}
def tMid (K : PySem.W.Frag) (tl : TO) : TE :=
    tOp (fun x y H Q => ∃ a b xs ys, x = .ref a ∧ y = .ref b ∧ SqT K H a xs ∧ SqT K H b ys ∧ xs.length + ys.length ≤ sizeLine ∧ ∀ H' c, Same H H' → SqT K H' c (xs ++ ys) → Q (.ref c) H')
      (tOp (fun x y H Q => ∃ a b xs ys, x = .ref a ∧ y = .ref b ∧ SqT K H a xs ∧ SqT K H b ys ∧ xs.length + ys.length ≤ sizeLine ∧ ∀ H' c, Same H H' → SqT K H' c (xs ++ ys) → Q (.ref c) H')
        (tSl (fun x lo hi H Q => ∃ a xs, x = .ref a ∧ SqT K H a xs ∧ ∀ H' b, Same H H' → SqT K H' b (cutV xs lo hi) → Q (.ref b) H') (tVar 1) tNoPart (tPart (tVar 3)))
        (tTup (tCons (tVar 2) tNil)))
      (tSl (fun x lo hi H Q => ∃ a xs, x = .ref a ∧ SqT K H a xs ∧ ∀ H' b, Same H H' → SqT K H' b (cutV xs lo hi) → Q (.ref b) H') (tVar 1) tl tNoPart)
/-- row[:spot] + (one,) + row[lo:] -/
theorem bend_mid {tl : TO} {σ : L2.St} {H : Hp} {Q : VK} (hn : ∀ x ∈ ns, -1 ≤ x ∧ x ≤ 20) (hl : ns.length ≤ 100) (hS : BendS K H0 p a ns v1 sp x4 σ H) (q : ∀ H' v, Same H H' → BendR K H0 H' v → Q v H')
    (hth : ∀ H' (Q' : Option Int → Hp → Prop), BendH K H0 p a ns v1 H' → (∀ o, Q' o H') → tl σ H' Q') : tMid K tl σ H Q := by
  obtain ⟨rfl, hB⟩ := hS
  have big : 1000 ≤ sizeLine := by rw [sizeLine_eq]; decide
  have lm : (ns.map V.int).length = ns.length := List.length_map _
  refine ⟨.ref a, rfl, .int sp, rfl, _, rfl, a, _, rfl, hB.row, fun H1 b1 e1 h1 => ?_⟩
  refine ⟨v1, rfl, by show 1 ≤ sizeLine; omega, fun t nt => ?_⟩
  have ht : (upd H1 t (.tup [v1])) t = some (.tup [v1]) := upd_same
  have e2 : Same H (upd H1 t (.tup [v1])) := e1.trans (same_new nt)
  have h2 := Same.tup (same_new (o := .tup [v1]) nt) h1
  generalize upd H1 t (.tup [v1]) = H2 at ht e2 h2 ⊢
  have c1 := cut_len (xs := ns.map V.int) (lo := none) (hi := some (sp : Int))
  refine ⟨b1, t, _, _, rfl, rfl, h2, .of ht, by show _ + 1 ≤ _; omega, fun H3 b3 e3 h3 => ?_⟩
  refine ⟨.ref a, rfl, hth H3 _ (hB.same (e2.trans e3)) fun o => ?_⟩
  refine ⟨a, _, rfl, Same.tup (e2.trans e3) hB.row, fun H4 b4 e4 h4 => ?_⟩
  have c2 := cut_len (xs := ns.map V.int) (lo := o) (hi := none)
  refine ⟨b3, b4, _, _, rfl, rfl, Same.tup e4 h3, h4, by rw [List.length_append]; show _ + 1 + _ ≤ _; omega, fun H5 b5 e5 h5 => ?_⟩
  have eA := ((e2.trans e3).trans e4).trans e5
  have hB5 := hB.same eA
  obtain ⟨d, hd, gd⟩ := hB5.one
  obtain ⟨es1, k1, k2⟩ := DpAll.cut (dpInts (K := K) (H := wl H0 H5) ns) (smL_intsW hn) none (some (sp : Int))
  obtain ⟨es2, k3, k4⟩ := DpAll.cut (dpInts (K := K) (H := wl H0 H5) ns) (smL_intsW hn) o none
  exact q H5 _ eA (tup_anyW hB5.pen hB5.bt h5 (DpAll.app (DpAll.app k1 (.cons hd .nil)) k3) ((k2.app gd).app k4) (by omega))
end
end Sg
set_option Elab.async false
set_option linter.all false
set_option maxRecDepth 100000
set_option maxHeartbeats 4000000
namespace Sg
open PySem PySem.Spec PyProof.Rows L2 StX
theorem depth_ints : ∀ ns : List Int, PyData.depthAll (iD ns) = 0
  | [] => rfl
  | n :: ns => by
    show max (PyData.depth (.int n)) (PyData.depthAll (iD ns)) = 0
    rw [depth_ints ns]; rfl
theorem bulk_ints : ∀ ns : List Int, PyData.bulkAll (iD ns) = ns.length
  | [] => rfl
  | n :: ns => by
    show PyData.bulk (.int n) + 1 + PyData.bulkAll (iD ns) = ns.length + 1
    rw [bulk_ints ns]
    simp only [PyData.bulk]; omega
theorem smL_map {g : Int → PyData} (hg : ∀ x ∈ smallW, smB 5 [g x] = true) : ∀ {ns : List Int}, (∀ x ∈ ns, -1 ≤ x ∧ x ≤ 20) → SmL (ns.length * 5) (ns.map g)
  | [], _ => SmL.nil
  | n :: ns, h => by
    refine (SmL.cons (smL_by (hg n (mem_smallW (h n List.mem_cons_self)))) (smL_map hg fun x hx => h x (List.mem_cons_of_mem _ hx))).le ?_
    rw [List.length_cons]; omega
theorem dp_map {K : PySem.W.Frag} {H : Hp} {f : Int → V} {g : Int → PyData} (hf : ∀ x, Dp K H (f x) (g x)) : ∀ ns : List Int, DpAll K H (ns.map f) (ns.map g)
  | [] => .nil
  | n :: ns => .cons (hf n) (dp_map hf ns)
theorem bl_table : ∀ x ∈ smallW, smB 5 [.bool (decide (V.int x = V.int 1))] = true := by decide +kernel
section
variable {P : Program} {w : World} {K : PySem.W.Frag} {mg : Str → Option Value} {base : Heap}
def spBend (K : PySem.W.Frag) : Sp := fun vs H Q _ => ∃ (p a : Addr) (ns : List Int), vs = [.ref p, .ref a] ∧ PenAt H p ∧ SqT K H a (ns.map V.int) ∧ (∀ x ∈ ns, -1 ≤ x ∧ x ≤ 20) ∧ ns.length ≤ 100 ∧
  ∀ H' v, PenAt H' p → But p H H' → AnyS K (wl H H') v → Q v H'
theorem ok_l_bend {f f1 f2 : Addr} {fd fd1 fd2 : FuncData} {k : Nat} (F : Fun K "_law_bend" "_law_bend" s_l_bend f fd)
    (G1 : FnOk P w K mg base CX0 k f1 fd1 ["_law_pen_here", "_law_many"] spDraw) (kp1 : PySem.W.keepIn K (.ref f1) = true) (b1 : Binds K fd1 ["_law_pen_here", "_law_many"] []) (g1 : mg "_law_draw" = some (.ref f1))
    (G2 : FnOk P w K mg base CX0 k f2 fd2 ["_law_pen_here", "_law_some"] spPickA) (kp2 : PySem.W.keepIn K (.ref f2) = true) (b2 : Binds K fd2 ["_law_pen_here", "_law_some"] []) (g2 : mg "_law_pick" = some (.ref f2))
    (m1 : mg "len" = none) (m2 : mg "list" = none) (m3 : mg "tuple" = none) (m4 : mg "str" = none) :
    FnOk P w K mg base CX0 (k + 1) f fd ["_law_pen_here", "_law_row"] (spBend K) := by
  refine F.ok sc_l_bend (fun vs H Q E h => ?_) (fun cdv A outer s H vs Q E hr h => ?_)
  · obtain ⟨p, a, ns, rfl, _⟩ := h; rfl
  · obtain ⟨p, a, ns, rfl, hp, hrow, hn, hl, q⟩ := h
    have big : 1000 ≤ sizeLine := by rw [sizeLine_eq]; decide
    have stR : ∀ (H1 H2 : Hp) v, Same H1 H2 → AnyS K (wl H H1) v → AnyS K (wl H H2) v := fun H1 H2 v e h => h.same (wl_same e)
    let S : L2.St → Hp → Prop := fun σ H' => ∃ v1 sp x4, BendS K H p a ns v1 sp x4 σ H'
    have stS : ∀ σ H1 H2, Same H1 H2 → S σ H1 → S σ H2 := fun σ H1 H2 e ⟨v1, sp, x4, h⟩ => ⟨v1, sp, x4, h.1, h.2.same e⟩
    have lm : (ns.map V.int).length = ns.length := List.length_map _
    have mid : ∀ {σ : L2.St} {Hm : Hp} {Q : VK}, S σ Hm → (∀ H' v, Same Hm H' → AnyS K (wl H H') v → Q v H') → tMid K (tPart (tVar 3)) σ Hm Q := @fun σ Hm Q hS q => by
      obtain ⟨v1, sp, x4, hS⟩ := hS
      exact bend_mid hn hl hS q (fun H' Q' hB h => ⟨.int sp, by rw [hS.1]; rfl, _, rfl, h _⟩)
    have mid1 : ∀ {σ : L2.St} {Hm : Hp} {Q : VK}, S σ Hm → (∀ H' v, Same Hm H' → AnyS K (wl H H') v → Q v H') → tMid K (tPart (tOp rAdd (tVar 3) (tC (.int 1)))) σ Hm Q := @fun σ Hm Q hS q => by
      obtain ⟨v1, sp, x4, hS⟩ := hS
      exact bend_mid hn hl hS q (fun H' Q' hB h => ⟨.int sp, by rw [hS.1]; rfl, sp, 1, rfl, rfl, _, rfl, h _⟩)
    have cuts : ∀ (H1 : Hp) lo hi, ∃ es, DpAll K (wl H H1) (cutV (ns.map V.int) lo hi) es ∧ SmL ns.length es := fun H1 lo hi => DpAll.cut (dpInts ns) (smL_intsW hn) lo hi
    have clen : ∀ lo hi, (cutV (ns.map V.int) lo hi).length ≤ ns.length := fun lo hi => by have := cut_len (xs := ns.map V.int) (lo := lo) (hi := hi); omega
    refine ⟨_, pss_cons (ps_set (i := 2) sc_l_bend.nd rfl (.inl rfl) (pe_call G2 hr (by rfl) g2 kp2 b2 .nil pass0 (pa_cons (pv 0) (pa_cons (pe_smL (n := 13) (by decide +kernel) rfl (by decide)) pa_nil))))
      (pss_cons (ps_set (i := 3) sc_l_bend.nd rfl (.inl rfl) (pe_call G1 hr (by rfl) g1 kp1 b1 .nil pass0 (pa_cons (pv 0) (pa_cons (pe_op op_add (pe_callB call_len_seq (by rfl) m1 PySem.boot_len (pa_cons (pv 1) pa_nil)) pe_int) pa_nil))))
      (pss_cons (ps_set (i := 4) sc_l_bend.nd rfl (.inl rfl) (pe_lst
        (pa_e (S := S) (R := fun H' v => AnyS K (wl H H') v) stS stR
          (PE.e (pe_op (op_catB (K := K) rfl) (pe_op (op_catB (K := K) rfl) (pe_slice (sl_tupB (K := K) rfl) (pv 1) po_none (po_some (pv 3))) (pe_tup (pa_cons (pv 2) pa_nil))) (pe_slice (sl_tupB (K := K) rfl) (pv 1) (po_some (pv 3)) po_none)) fun σ H1 Q1 hS q1 => mid hS q1)
        (pa_e stS stR (PE.e (pe_revT (K := K) rfl (pv 1)) fun σ H1 Q1 hS q1 => ?_)
        (pa_e stS stR (PE.e (pe_callTy call_list_of (by rfl) m2 (by decide +kernel) (pa_cons (pv 1) pa_nil)) fun σ H1 Q1 hS q1 => ?_)
        (pa_e stS stR (PE.e (pe_tup (pa_cons (pv 1) pa_nil)) fun σ H1 Q1 hS q1 => ?_)
        (pa_e stS stR (PE.e (pe_op (op_catB (K := K) rfl) (pv 1) (pe_slice (sl_tupB (K := K) rfl) (pv 1) (po_some (pe_un un_neg pe_int)) po_none)) fun σ H1 Q1 hS q1 => ?_)
        (pa_e stS stR (PE.e (pe_slice (sl_tupB (K := K) rfl) (pv 1) (po_some pe_int) po_none) fun σ H1 Q1 hS q1 => ?_)
        (pa_e stS stR (PE.e (pe_slice (sl_tupB (K := K) rfl) (pv 1) po_none (po_some (pe_un un_neg pe_int))) fun σ H1 Q1 hS q1 => ?_) pa_e0)))))))))
      (pss_cons (ps_set (i := 4) sc_l_bend.nd rfl (.inl rfl) (pe_op op_cat (pv 4) (pe_lst
        (pa_e (S := S) (R := fun H' v => AnyS K (wl H H') v) stS stR
          (PE.e (pe_op (op_catB (K := K) rfl) (pe_op (op_catB (K := K) rfl) (pe_slice (sl_tupB (K := K) rfl) (pv 1) po_none (po_some (pv 3))) (pe_tup (pa_cons (pv 2) pa_nil))) (pe_slice (sl_tupB (K := K) rfl) (pv 1) (po_some (pe_op op_add (pv 3) pe_int)) po_none)) fun σ H1 Q1 hS q1 => mid1 hS q1)
        (pa_e stS stR (PE.e (pe_callTy call_tuple_of (by rfl) m3 (by decide +kernel) (pa_cons
            (pe_lc (own := [("_law_other", 5)]) (g := gName 5) (tt := tYes) rfl sc_l_bend.nd (pi_tup (pv 1)) (blkOk_by (N := ["_law_pen_here", "_law_row", "_law_one", "_law_spot", "_law_found", "_law_other"]) (sc := defScope s_l_bend) (by decide +kernel))
              (fun _ _ _ _ _ => pg_name (i := 5) sc_l_bend.nd rfl (Or.inl rfl)) (fun _ _ _ _ _ => pts_nil) (fun _ _ _ _ _ => pe_cmpR op_eq (pv 5) pe_int (nomark _))) pa_nil)) fun σ H1 Q1 hS q1 => ?_) pa_e0)))))
      (pss_one (ps_ret (pe_call G2 hr (by rfl) g2 kp2 b2 .nil pass0 (pa_cons (pv 0) (pa_cons (pe_op op_cat (pv 4) (pe_lst
        (pa_e (S := S) (R := fun H' v => AnyS K (wl H H') v) stS stR
          (PE.e (pe_op (op_catB (K := K) rfl) (pe_op (op_catB (K := K) rfl) (pe_slice (sl_tupB (K := K) rfl) (pv 1) po_none (po_some (pv 3))) (pe_tup (pa_cons (pv 2) pa_nil))) (pe_slice (sl_tupB (K := K) rfl) (pv 1) (po_some (pe_op op_add (pv 3) pe_int)) po_none)) fun σ H1 Q1 hS q1 => mid1 hS q1)
        (pa_e stS stR (PE.e (pe_callTy call_tuple_of (by rfl) m3 (by decide +kernel) (pa_cons
            (pe_lc (own := [("_law_other", 5)]) (g := gName 5) (tt := tYes) rfl sc_l_bend.nd (pi_tup (pv 1)) (blkOk_by (N := ["_law_pen_here", "_law_row", "_law_one", "_law_spot", "_law_found", "_law_other"]) (sc := defScope s_l_bend) (by decide +kernel))
              (fun _ _ _ _ _ => pg_name (i := 5) sc_l_bend.nd rfl (Or.inl rfl)) (fun _ _ _ _ _ => pts_nil) (fun _ _ _ _ _ => pe_callTy call_str_int (by rfl) m4 (by decide +kernel) (pa_cons (pv 5) pa_nil))) pa_nil)) fun σ H1 Q1 hS q1 => ?_) pa_e0)))) pa_nil)))))))), ?_⟩
    · obtain ⟨v1, sp, x4, rfl, hB⟩ := hS
      refine ⟨.ref a, rfl, a, _, rfl, hB.row, fun t nt => q1 _ _ (same_new nt) ?_⟩
      refine tup_ints (ns := ns.reverse) (hB.pen.new nt) (hB.bt.trans (.of (same_new nt))) (.of ?_) (fun x hx => hn x (List.mem_reverse.mp hx)) (by rw [List.length_reverse]; omega)
      rw [List.map_reverse]; exact upd_same
    · obtain ⟨v1, sp, x4, rfl, hB⟩ := hS
      exact ⟨.ref a, rfl, a, _, rfl, .inr hB.row, fun l nl => q1 _ _ (same_new nl) ⟨.list (iD ns), .data (.lst (.of ((wl_ne (fun xs z => by rw [hp.free hB.pen hB.bt nl] at z; exact nomatch z)).trans upd_same)) (dpInts ns)), (smL_intsW hn).lstS (by omega)⟩⟩
    · obtain ⟨v1, sp, x4, rfl, hB⟩ := hS
      refine ⟨.ref a, rfl, by show 1 ≤ sizeLine; omega, fun t nt => q1 _ _ (same_new nt) (tup_anyW (k := 150) (ds := [.tuple (iD ns)]) (hB.pen.new nt) (hB.bt.trans (.of (same_new nt))) (.of upd_same) (.cons (.tup ((hB.pen.new nt).wl (hB.bt.trans (.of (same_new nt))) (Same.tup (same_new nt) hB.row)) (dpInts ns)) .nil) (SmL.one ((smL_intsW hn).tup (by omega)) ?_ ?_) (by decide))⟩
      · simp only [PyData.depth, depth_ints]; decide
      · simp only [PyData.bulk, bulk_ints]; omega
    · obtain ⟨v1, sp, x4, rfl, hB⟩ := hS
      refine ⟨.ref a, rfl, .ref a, rfl, 1, rfl, _, rfl, a, _, rfl, hB.row, fun H2 b2 e2 h2 => ?_⟩
      refine ⟨a, b2, _, _, rfl, rfl, Same.tup e2 hB.row, h2, by have := clen (some (-1)) none; omega, fun H3 b3 e3 h3 => q1 _ _ (e2.trans e3) ?_⟩
      obtain ⟨es, k1, k2⟩ := cuts H3 (some (-1)) none
      exact tup_anyW (hB.pen.same (e2.trans e3)) (hB.bt.trans (.of (e2.trans e3))) h3 (DpAll.app (dpInts ns) k1) ((smL_intsW hn).app k2) (by omega)
    · obtain ⟨v1, sp, x4, rfl, hB⟩ := hS
      refine ⟨.ref a, rfl, _, rfl, a, _, rfl, hB.row, fun H2 b2 e2 h2 => q1 _ _ e2 ?_⟩
      obtain ⟨es, k1, k2⟩ := cuts H2 (some 1) none
      exact tup_anyW (hB.pen.same e2) (hB.bt.trans (.of e2)) h2 k1 k2 (by omega)
    · obtain ⟨v1, sp, x4, rfl, hB⟩ := hS
      refine ⟨.ref a, rfl, 1, rfl, _, rfl, a, _, rfl, hB.row, fun H2 b2 e2 h2 => q1 _ _ e2 ?_⟩
      obtain ⟨es, k1, k2⟩ := cuts H2 none (some (-1))
      exact tup_anyW (hB.pen.same e2) (hB.bt.trans (.of e2)) h2 k1 k2 (by omega)
    · obtain ⟨v1, sp, x4, rfl, hB⟩ := hS
      refine ⟨.ref a, rfl, a, rfl, ⟨_, hB.row⟩, fun D hD => ?_⟩
      refine lc_tup (xs := ns.map V.int) (fun i H' => Same H1 H' ∧ H' D = some (.lst ((ns.take i).map fun x => V.bl (decide (V.int x = V.int 1))))) ⟨same_new hD, upd_same⟩ (fun i H' _ h => Same.tup h.1 hB.row) (fun i x H' hx h => ?_) (fun H' h => ?_)
      · obtain ⟨sm, hDl⟩ := h
        rw [List.getElem?_map] at hx
        obtain ⟨y, hy, rfl⟩ := Option.map_eq_some_iff.mp hx
        refine ⟨rfl, .int y, rfl, rfl, _, hDl, ?_, fun b o e => ?_, ?_⟩
        · rw [List.length_map, List.length_take]; omega
        · rw [upd_ne (ne_of_none e hD)]; exact sm _ _ e
        · rw [upd_same, List.take_add_one, hy, List.map_append]; rfl
      · obtain ⟨sm, hDl⟩ := h
        rw [lm, List.take_length] at hDl
        refine ⟨D, _, rfl, .inl ⟨.of hDl, fun t nt => q1 _ _ (sm.trans (same_new nt)) ?_⟩⟩
        exact tup_anyW (hB.pen.same (sm.trans (same_new nt))) (hB.bt.trans (.of (sm.trans (same_new nt)))) (.of upd_same) (dp_map (g := fun x => .bool (decide (V.int x = V.int 1))) (fun x => .bl _) ns) (smL_map bl_table hn) (by omega)
    · obtain ⟨v1, sp, x4, rfl, hB⟩ := hS
      refine ⟨.ref a, rfl, a, rfl, ⟨_, hB.row⟩, fun D hD => ?_⟩
      refine lc_tup (xs := ns.map V.int) (fun i H' => Same H1 H' ∧ H' D = some (.lst ((ns.take i).map fun x => V.str (toString x : String)))) ⟨same_new hD, upd_same⟩ (fun i H' _ h => Same.tup h.1 hB.row) (fun i x H' hx h => ?_) (fun H' h => ?_)
      · obtain ⟨sm, hDl⟩ := h
        rw [List.getElem?_map] at hx
        obtain ⟨y, hy, rfl⟩ := Option.map_eq_some_iff.mp hx
        refine ⟨rfl, .int y, rfl, y, rfl, (str_table y (mem_smallW (hn y (List.mem_of_getElem? hy)))).2, _, hDl, ?_, fun b o e => ?_, ?_⟩
        · rw [List.length_map, List.length_take]; omega
        · rw [upd_ne (ne_of_none e hD)]; exact sm _ _ e
        · rw [upd_same, List.take_add_one, hy, List.map_append]; rfl
      · obtain ⟨sm, hDl⟩ := h
        rw [lm, List.take_length] at hDl
        refine ⟨D, _, rfl, .inl ⟨.of hDl, fun t nt => q1 _ _ (sm.trans (same_new nt)) ?_⟩⟩
        exact tup_anyW (hB.pen.same (sm.trans (same_new nt))) (hB.bt.trans (.of (sm.trans (same_new nt)))) (.of upd_same) (dp_map (g := fun x => .str (toString x : String)) (fun x => .str _) ns) (smL_map (fun x hx => (str_table x hx).1) hn) (by omega)
    · refine ⟨.ref p, rfl, fun H1 l xs e1 nl hl1 hxs lx => ?_⟩
      have p1 := hp.same e1
      refine ⟨p, l, xs, rfl, p1, hl1, Ne.symm (hp.ne nl), (fun z => by rw [z] at lx; exact absurd lx (by decide)), by omega, fun H2 v1 hv1 p2 b2 => ?_⟩
      have hB2 : BendH K H p a ns v1 H2 := ⟨p2, p1.tup b2 (Same.tup e1 hrow), ((hxs v1 hv1).same nw_wl).same (wl_but hp b2), (But.of e1).trans b2⟩
      refine ⟨.ref p, rfl, .ref a, rfl, a, _, rfl, .inr hB2.row, _, 1, rfl, rfl, p, _, rfl, p2, by omega, by omega, fun H3 r r0 r1 p3 b3 => ?_⟩
      have hB3 : BendH K H p a ns v1 H3 := ⟨p3, p2.tup b3 hB2.row, hB2.one.same (wl_but hp b3), hB2.bt.trans b3⟩
      obtain ⟨sp, rfl⟩ : ∃ sp : Nat, r = sp := ⟨r.toNat, by omega⟩
      have c3 : But p H H3 := ((But.of e1).trans b2).trans b3
      refine ⟨⟨v1, sp, none, rfl, hB3⟩, fun H4 vs4 e4 hv4 hl4 => ⟨by omega, fun l4 nl4 => ?_⟩⟩
      have n4 : l4 ≠ p := Ne.symm ((p3.same e4).ne nl4)
      have hB4 := (hB3.same e4).same (same_new (o := .lst vs4) nl4)
      have hl4' : (upd H4 l4 (.lst vs4)) l4 = some (.lst vs4) := upd_same
      have e4' := e4.trans (same_new (o := .lst vs4) nl4)
      have hv4' : ∀ v ∈ vs4, AnyS K (wl H (upd H4 l4 (.lst vs4))) v := fun v hv => stR _ _ _ (same_new nl4) (hv4 v hv)
      generalize upd H4 l4 (.lst vs4) = H4' at hB4 hl4' e4' hv4' ⊢
      refine ⟨.ref l4, rfl, ⟨v1, sp, some (.ref l4), rfl, hB4⟩, fun H5 vs5 e5 hv5 hl5 => ⟨by omega, fun l5 nl5 => ?_⟩⟩
      refine ⟨l4, l5, _, _, rfl, rfl, same_new nl5 _ _ (e5 _ _ hl4'), upd_same, by omega, fun l6 nl6 => ?_⟩
      have e6 := (e5.trans (same_new (o := .lst vs5) nl5)).trans (same_new (o := .lst (vs4 ++ vs5)) nl6)
      have hB6 := hB4.same e6
      have hl6 : (upd (upd H5 l5 (.lst vs5)) l6 (.lst (vs4 ++ vs5))) l6 = some (.lst (vs4 ++ vs5)) := upd_same
      have hv6 : ∀ v ∈ vs4 ++ vs5, AnyS K (wl H (upd (upd H5 l5 (.lst vs5)) l6 (.lst (vs4 ++ vs5)))) v := fun v hv => (List.mem_append.mp hv).elim (fun z => stR _ _ _ e6 (hv4' v z)) fun z => stR _ _ _ ((same_new (o := .lst vs5) nl5).trans (same_new nl6)) (hv5 v z)
      have hl6' : (vs4 ++ vs5).length = 9 := by rw [List.length_append]; omega
      generalize upd (upd H5 l5 (.lst vs5)) l6 (.lst (vs4 ++ vs5)) = H6 at e6 hB6 hl6 hv6 ⊢
      generalize vs4 ++ vs5 = vs6 at hl6 hv6 hl6' ⊢
      refine ⟨.ref p, rfl, .ref l6, rfl, ⟨v1, sp, some (.ref l6), rfl, hB6⟩, fun H7 vs7 e7 hv7 hl7 => ⟨by omega, fun l7 nl7 => ?_⟩⟩
      refine ⟨l6, l7, _, _, rfl, rfl, same_new nl7 _ _ (e7 _ _ hl6), upd_same, by omega, fun l8 nl8 => ?_⟩
      have e8 := (e7.trans (same_new (o := .lst vs7) nl7)).trans (same_new (o := .lst (vs6 ++ vs7)) nl8)
      have hB8 := hB6.same e8
      have p8n := Ne.symm (((hB6.pen.same e7).same (same_new (o := .lst vs7) nl7)).ne nl8)
      have hv8 : ∀ v ∈ vs6 ++ vs7, AnyS K (wl H (upd (upd H7 l7 (.lst vs7)) l8 (.lst (vs6 ++ vs7)))) v := fun v hv => (List.mem_append.mp hv).elim (fun z => stR _ _ _ e8 (hv6 v z)) fun z => stR _ _ _ ((same_new (o := .lst vs7) nl7).trans (same_new nl8)) (hv7 v z)
      have hl8 : (vs6 ++ vs7).length = 11 := by rw [List.length_append]; omega
      refine ⟨p, l8, _, rfl, hB8.pen, upd_same, p8n, (fun z => by rw [z] at hl8; exact absurd hl8 (by decide)), by omega, fun H9 x hx p9 b9 => ?_⟩
      exact q H9 x p9 (((c3.trans (.of e4')).trans (.of (e6.trans e8))).trans b9) ((hv8 x hx).same (wl_but hp b9))
end
end Sg
set_option Elab.async false
set_option linter.all false
set_option maxRecDepth 100000
set_option maxHeartbeats 4000000
namespace Sg
open PySem PySem.Spec PyProof.Rows L2 StX
def kNames : List Str := ["NoWork", "NoLine", "NoKind", "OnlyOne", "NoPlan", "NoKinds", "NoCounts", "NoState", "NoChoice", "NoTick", "NoLap", "NotFitting", "NoWorths", "NoWaits", "NoDistance", "NotTwo", "NoRate", "NoBars", "NoTicks", "NoStation", "NoPace", "NoText", "NothingDone", "TooMany", "TooFar", "TooLong", "Clash", "TooSoon"]
def kWords : List Str := ["work", "line", "kind", "one", "plan", "kinds", "counts", "state", "choice", "tick", "lap", "fitting", "worths", "waits", "distance", "two", "rate", "bars", "ticks", "station", "pace", "text", "nothing", "many", "far", "long", "clash", "soon"]
/-- the marks from i on, n of them: the one at j is set -/
def mk (j i n : Nat) : List V := (List.range' i n).map fun m => V.bl (decide (m = j))
theorem mk_app (j i n : Nat) : mk j 0 i ++ mk j i n = mk j 0 (i + n) := by
  unfold mk
  rw [← List.map_append]
  congr 1
  have := List.range'_append_1 (s := 0) (m := i) (n := n)
  rw [Nat.zero_add] at this
  exact this
def tMks (p : Addr × Obj) (j i n : Nat) : TA := fun σ H Q => σ[0]? = some (some (.ref p.1)) ∧ Q (mk j i n) H
def tMkL (p : Addr × Obj) (j i n : Nat) : TE := fun σ H Q => σ[0]? = some (some (.ref p.1)) ∧ ∀ H' l, Same H H' → H' l = some (.lst (mk j i n)) → Q (.ref l) H'
section
variable {X : Cx} {p : Addr × Obj} {j i n : Nat}
theorem pa_m0 : PA X [] (tMks p j i 0) := ⟨fun pos pins s σ H Q I h => pa_nil.run pos pins s σ H Q I h.2⟩
theorem pa_m {e : Expr} {es : List Expr} (h : PE X e fun σ H Q => σ[0]? = some (some (.ref p.1)) ∧ Q (.bl (decide (i = j))) H) (g : PA X es (tMks p j (i + 1) n))
    (he : starEach (e :: es) X.env = (false, eval e X.env) :: starEach es X.env := by rfl) : PA X (e :: es) (tMks p j i (n + 1)) := by
  refine ⟨fun pos pins s σ H Q I q => (pa_cons h g he).run pos pins s σ H Q I ?_⟩
  exact ⟨q.1, q.1, q.2⟩
theorem pe_mkL {es : List Expr} {pos : Pos} (h : PA X es (tMks p j i n)) (hn : n ≤ 1000) : PE X (.List es pos) (tMkL p j i n) := by
  refine PE.imp (pe_lst h) fun σ H Q q => ⟨q.1, ?_, fun l nl => q.2 _ l (same_new nl) upd_same⟩
  have big : 1000 ≤ sizeLine := by rw [sizeLine_eq]; decide
  unfold mk
  rw [List.length_map, List.length_range']; omega
end
/-- the class D is the one at j -/
structure KindOk (K : PySem.W.Frag) (C : Nat → Addr) (D : Addr) (j : Nat) : Prop where
  lt : j < 28
  ec : ExcC K D
  kit : ∀ i, i < 28 → PySem.W.kitOne K (.ref D) (.ref (C i)) = some (decide (i = j))
  val : PySem.W.kitOne K (.ref D) (.type "ValueError") = some true
theorem pe_isE {X : Cx} {K : PySem.W.Frag} {C : Nat → Addr} {p : Addr × Obj} {D : Addr} {j : Nat} {x : Str} {q1 q2 q3 pos : Pos} (hK : X.K = K) (hp : p ∈ X.pn) (KO : KindOk K C D j) (hz : Zc (.ref D) none p.2) (hf : ∃ vs, p.2.data = .fields vs)
    (gi : Gl X "isinstance") (m1 : X.mg "isinstance" = none) (i : Nat) (hi : i < 28) (gx : Gl X x) (hx : X.mg x = some (.ref (C i))) (hN : X.N[0]? = some ("_law_e" : Str)) (hv : Vis X.env.scope "_law_e") (hd : (x == ("__debug__" : Str)) = false := by decide) :
    PE X (.Call (.Name "isinstance" q1) [.Name "_law_e" q3, .Name x q2] [] pos) (fun σ H Q => σ[0]? = some (some (.ref p.1)) ∧ Q (.bl (decide (i = j))) H) :=
  PE.imp (pe_callB (call_isP hK hp KO.ec hz hf) gi m1 (by decide +kernel) (pa_cons (pe_var hN hv) (pa_cons (pe_glob (v := .ref (C i)) gx hx rfl hd) pa_nil))) fun σ H Q q =>
    ⟨.ref p.1, q.1, .ref (C i), .ref (C i), _, rfl, (fun u r => r), KO.kit i hi, q.2⟩
theorem mk_count : ∀ j, j < 28 → ((List.range' 0 28).map fun m => decide (m = j)).count true = 1 := by decide +kernel
theorem mk_at {j : Nat} (h : j < 28) : (mk j 0 28)[j]? = some (.bl true) := by
  unfold mk
  rw [List.getElem?_map, List.getElem?_range' h]
  simp
theorem mk_no {j m : Nat} (h : j < 28) (hm : m < j) : (mk j 0 28)[m]? = some (.bl false) := by
  unfold mk
  rw [List.getElem?_map, List.getElem?_range' (by omega)]
  simp only [Option.map_some, Option.some.injEq, V.bl.injEq, decide_eq_false_iff_not]
  omega
section
variable {P : Program} {w : World} {K : PySem.W.Frag} {mg : Str → Option Value} {base : Heap}
def spKind (K : PySem.W.Frag) (C : Nat → Addr) (p : Addr × Obj) : Sp := fun vs H Q _ => ∃ D j wd, KindOk K C D j ∧ kWords[j]? = some wd ∧ vs = [.ref p.1] ∧ Zc (.ref D) none p.2 ∧ (∃ vs, p.2.data = .fields vs) ∧ ∀ H', Same H H' → Q (.str wd) H'
theorem ok_l_kind {f : Addr} {fd : FuncData} {k : Nat} {C : Nat → Addr} (F : Fun K "_law_kind" "_law_kind" s_l_kind f fd) (hg : ∀ i, i < 28 → mg (kNames.getD i "") = some (.ref (C i)))
    (m1 : mg "isinstance" = none) (m2 : mg "ValueError" = none) : FnE P w K mg base (k + 1) f fd ["_law_e"] (spKind K C) := by
  refine fnE_mk F sc_l_kind (fun p vs H Q h => ?_) (fun cdv A outer s H vs Q p hr h => ?_)
  · obtain ⟨D, j, wd, _, _, rfl, _⟩ := h; rfl
  · obtain ⟨D, j, wd, KO, hw, rfl, hz, hf, q⟩ := h
    have EC := KO.ec
    refine ⟨_, pss_cons (ps_set (i := 1) sc_l_kind.nd rfl (.inl rfl) (pe_mkL (pa_m (pe_isE (K := K) (C := C) rfl (List.mem_singleton.mpr rfl) KO hz hf (by rfl) m1 0 (by decide) (by rfl) (hg 0 (by decide)) rfl (Or.inl rfl)) (pa_m (pe_isE (K := K) (C := C) rfl (List.mem_singleton.mpr rfl) KO hz hf (by rfl) m1 1 (by decide) (by rfl) (hg 1 (by decide)) rfl (Or.inl rfl)) (pa_m (pe_isE (K := K) (C := C) rfl (List.mem_singleton.mpr rfl) KO hz hf (by rfl) m1 2 (by decide) (by rfl) (hg 2 (by decide)) rfl (Or.inl rfl)) (pa_m (pe_isE (K := K) (C := C) rfl (List.mem_singleton.mpr rfl) KO hz hf (by rfl) m1 3 (by decide) (by rfl) (hg 3 (by decide)) rfl (Or.inl rfl)) pa_m0)))) (by decide)))
      (pss_cons (ps_set (i := 1) sc_l_kind.nd rfl (.inl rfl) (pe_op op_cat (pv 1) (pe_mkL (pa_m (pe_isE (K := K) (C := C) rfl (List.mem_singleton.mpr rfl) KO hz hf (by rfl) m1 4 (by decide) (by rfl) (hg 4 (by decide)) rfl (Or.inl rfl)) (pa_m (pe_isE (K := K) (C := C) rfl (List.mem_singleton.mpr rfl) KO hz hf (by rfl) m1 5 (by decide) (by rfl) (hg 5 (by decide)) rfl (Or.inl rfl)) (pa_m (pe_isE (K := K) (C := C) rfl (List.mem_singleton.mpr rfl) KO hz hf (by rfl) m1 6 (by decide) (by rfl) (hg 6 (by decide)) rfl (Or.inl rfl)) (pa_m (pe_isE (K := K) (C := C) rfl (List.mem_singleton.mpr rfl) KO hz hf (by rfl) m1 7 (by decide) (by rfl) (hg 7 (by decide)) rfl (Or.inl rfl)) pa_m0)))) (by decide))))
      (pss_cons (ps_set (i := 1) sc_l_kind.nd rfl (.inl rfl) (pe_op op_cat (pv 1) (pe_mkL (pa_m (pe_isE (K := K) (C := C) rfl (List.mem_singleton.mpr rfl) KO hz hf (by rfl) m1 8 (by decide) (by rfl) (hg 8 (by decide)) rfl (Or.inl rfl)) (pa_m (pe_isE (K := K) (C := C) rfl (List.mem_singleton.mpr rfl) KO hz hf (by rfl) m1 9 (by decide) (by rfl) (hg 9 (by decide)) rfl (Or.inl rfl)) (pa_m (pe_isE (K := K) (C := C) rfl (List.mem_singleton.mpr rfl) KO hz hf (by rfl) m1 10 (by decide) (by rfl) (hg 10 (by decide)) rfl (Or.inl rfl)) (pa_m (pe_isE (K := K) (C := C) rfl (List.mem_singleton.mpr rfl) KO hz hf (by rfl) m1 11 (by decide) (by rfl) (hg 11 (by decide)) rfl (Or.inl rfl)) pa_m0)))) (by decide))))
      (pss_cons (ps_set (i := 1) sc_l_kind.nd rfl (.inl rfl) (pe_op op_cat (pv 1) (pe_mkL (pa_m (pe_isE (K := K) (C := C) rfl (List.mem_singleton.mpr rfl) KO hz hf (by rfl) m1 12 (by decide) (by rfl) (hg 12 (by decide)) rfl (Or.inl rfl)) (pa_m (pe_isE (K := K) (C := C) rfl (List.mem_singleton.mpr rfl) KO hz hf (by rfl) m1 13 (by decide) (by rfl) (hg 13 (by decide)) rfl (Or.inl rfl)) (pa_m (pe_isE (K := K) (C := C) rfl (List.mem_singleton.mpr rfl) KO hz hf (by rfl) m1 14 (by decide) (by rfl) (hg 14 (by decide)) rfl (Or.inl rfl)) (pa_m (pe_isE (K := K) (C := C) rfl (List.mem_singleton.mpr rfl) KO hz hf (by rfl) m1 15 (by decide) (by rfl) (hg 15 (by decide)) rfl (Or.inl rfl)) pa_m0)))) (by decide))))
      (pss_cons (ps_set (i := 1) sc_l_kind.nd rfl (.inl rfl) (pe_op op_cat (pv 1) (pe_mkL (pa_m (pe_isE (K := K) (C := C) rfl (List.mem_singleton.mpr rfl) KO hz hf (by rfl) m1 16 (by decide) (by rfl) (hg 16 (by decide)) rfl (Or.inl rfl)) (pa_m (pe_isE (K := K) (C := C) rfl (List.mem_singleton.mpr rfl) KO hz hf (by rfl) m1 17 (by decide) (by rfl) (hg 17 (by decide)) rfl (Or.inl rfl)) (pa_m (pe_isE (K := K) (C := C) rfl (List.mem_singleton.mpr rfl) KO hz hf (by rfl) m1 18 (by decide) (by rfl) (hg 18 (by decide)) rfl (Or.inl rfl)) (pa_m (pe_isE (K := K) (C := C) rfl (List.mem_singleton.mpr rfl) KO hz hf (by rfl) m1 19 (by decide) (by rfl) (hg 19 (by decide)) rfl (Or.inl rfl)) pa_m0)))) (by decide))))
      (pss_cons (ps_set (i := 1) sc_l_kind.nd rfl (.inl rfl) (pe_op op_cat (pv 1) (pe_mkL (pa_m (pe_isE (K := K) (C := C) rfl (List.mem_singleton.mpr rfl) KO hz hf (by rfl) m1 20 (by decide) (by rfl) (hg 20 (by decide)) rfl (Or.inl rfl)) (pa_m (pe_isE (K := K) (C := C) rfl (List.mem_singleton.mpr rfl) KO hz hf (by rfl) m1 21 (by decide) (by rfl) (hg 21 (by decide)) rfl (Or.inl rfl)) (pa_m (pe_isE (K := K) (C := C) rfl (List.mem_singleton.mpr rfl) KO hz hf (by rfl) m1 22 (by decide) (by rfl) (hg 22 (by decide)) rfl (Or.inl rfl)) (pa_m (pe_isE (K := K) (C := C) rfl (List.mem_singleton.mpr rfl) KO hz hf (by rfl) m1 23 (by decide) (by rfl) (hg 23 (by decide)) rfl (Or.inl rfl)) pa_m0)))) (by decide))))
      (pss_cons (ps_set (i := 1) sc_l_kind.nd rfl (.inl rfl) (pe_op op_cat (pv 1) (pe_mkL (pa_m (pe_isE (K := K) (C := C) rfl (List.mem_singleton.mpr rfl) KO hz hf (by rfl) m1 24 (by decide) (by rfl) (hg 24 (by decide)) rfl (Or.inl rfl)) (pa_m (pe_isE (K := K) (C := C) rfl (List.mem_singleton.mpr rfl) KO hz hf (by rfl) m1 25 (by decide) (by rfl) (hg 25 (by decide)) rfl (Or.inl rfl)) (pa_m (pe_isE (K := K) (C := C) rfl (List.mem_singleton.mpr rfl) KO hz hf (by rfl) m1 26 (by decide) (by rfl) (hg 26 (by decide)) rfl (Or.inl rfl)) (pa_m (pe_isE (K := K) (C := C) rfl (List.mem_singleton.mpr rfl) KO hz hf (by rfl) m1 27 (by decide) (by rfl) (hg 27 (by decide)) rfl (Or.inl rfl)) pa_m0)))) (by decide))))
      (pss_cons (ps_set (i := 2) sc_l_kind.nd rfl (.inl rfl) (pe_lst (pa_cons pe_str (pa_cons pe_str (pa_cons pe_str (pa_cons pe_str (pa_cons pe_str (pa_cons pe_str (pa_cons pe_str (pa_cons pe_str (pa_cons pe_str (pa_cons pe_str (pa_cons pe_str (pa_cons pe_str pa_nil))))))))))))))
      (pss_cons (ps_set (i := 2) sc_l_kind.nd rfl (.inl rfl) (pe_op op_cat (pv 2) (pe_lst (pa_cons pe_str (pa_cons pe_str (pa_cons pe_str (pa_cons pe_str (pa_cons pe_str (pa_cons pe_str (pa_cons pe_str (pa_cons pe_str (pa_cons pe_str (pa_cons pe_str pa_nil)))))))))))))
      (pss_cons (ps_set (i := 2) sc_l_kind.nd rfl (.inl rfl) (pe_op op_cat (pv 2) (pe_lst (pa_cons pe_str (pa_cons pe_str (pa_cons pe_str (pa_cons pe_str (pa_cons pe_str (pa_cons pe_str pa_nil)))))))))
      (pss_cons (ps_if (PW.pt (pw_or (pt_cmpR op_ne (pe_bm PySem.F.plainAttrs_list PySem.F.slot_list_count PySem.F.type_list_count mt_lcountB (pv 1) (pa_cons pe_bl pa_nil)) pe_int (nomark _)) (pw_or1 (pt_not (pt_val (pe_callB (call_isP (K := K) rfl (List.mem_singleton.mpr rfl) EC hz hf) (by rfl) m1 (by decide +kernel) (pa_cons (pv 0) (pa_cons (pe_bltn (v := .ty "ValueError") (by rfl) m2 (by decide +kernel) rfl) pa_nil)))))))) (pss_one ps_never) pss_nil)
      (pss_one (ps_ret (pe_ix ix_list (pv 2) (pe_bm PySem.F.plainAttrs_list PySem.F.slot_list_index PySem.F.type_list_index mt_index (pv 1) (pa_cons pe_bl pa_nil)) (fun _ _ => rfl)))))))))))))), ?_⟩
    have big : 1000 ≤ sizeLine := by rw [sizeLine_eq]; decide
    have cat : ∀ {H1 H2 : Hp} {l1 l2 : Addr} {n m : Nat} {Q : VK}, H1 l1 = some (.lst (mk j 0 n)) → Same H1 H2 → H2 l2 = some (.lst (mk j n m)) → n + m ≤ 1000 →
        (∀ H3 l3, Same H2 H3 → H3 l3 = some (.lst (mk j 0 (n + m))) → Q (.ref l3) H3) → rCat (.ref l1) (.ref l2) H2 Q := @fun H1 H2 l1 l2 n m Q h1 e h2 hs q => by
      refine ⟨l1, l2, _, _, rfl, rfl, e _ _ h1, h2, ?_, fun l3 n3 => q _ l3 (same_new n3) (by rw [mk_app]; exact upd_same)⟩
      unfold mk
      rw [List.length_map, List.length_map, List.length_range', List.length_range']; omega
    refine ⟨rfl, fun H1 l1 e1 h1 => ?_⟩
    refine ⟨.ref l1, rfl, rfl, fun H2 l2 e2 h2 => cat h1 e2 h2 (by decide) fun H3 l3 e3 h3 => ?_⟩
    have s1 := (e1.trans e2).trans e3
    refine ⟨.ref l3, rfl, rfl, fun H2 l2 e2 h2 => cat h3 e2 h2 (by decide) fun H4 l4 e4 h4 => ?_⟩
    have s1 := (s1.trans e2).trans e4
    refine ⟨.ref l4, rfl, rfl, fun H2 l2 e2 h2 => cat h4 e2 h2 (by decide) fun H5 l5 e5 h5 => ?_⟩
    have s1 := (s1.trans e2).trans e5
    refine ⟨.ref l5, rfl, rfl, fun H2 l2 e2 h2 => cat h5 e2 h2 (by decide) fun H6 l6 e6 h6 => ?_⟩
    have s1 := (s1.trans e2).trans e6
    refine ⟨.ref l6, rfl, rfl, fun H2 l2 e2 h2 => cat h6 e2 h2 (by decide) fun H7 l7 e7 h7 => ?_⟩
    have s1 := (s1.trans e2).trans e7
    refine ⟨.ref l7, rfl, rfl, fun H2 l2 e2 h2 => cat h7 e2 h2 (by decide) fun H8 l8 e8 h8 => ?_⟩
    have s1 := (s1.trans e2).trans e8
    refine ⟨by show 12 ≤ sizeLine; omega, fun w1 nw1 => ?_⟩
    have s2 := same_new (o := .lst [V.str "work", V.str "line", V.str "kind", V.str "one", V.str "plan", V.str "kinds", V.str "counts", V.str "state", V.str "choice", V.str "tick", V.str "lap", V.str "fitting"]) nw1
    have u1 : (upd H8 w1 (.lst [V.str "work", V.str "line", V.str "kind", V.str "one", V.str "plan", V.str "kinds", V.str "counts", V.str "state", V.str "choice", V.str "tick", V.str "lap", V.str "fitting"])) w1 = some (.lst [V.str "work", V.str "line", V.str "kind", V.str "one", V.str "plan", V.str "kinds", V.str "counts", V.str "state", V.str "choice", V.str "tick", V.str "lap", V.str "fitting"]) := upd_same
    refine ⟨.ref w1, rfl, by show 10 ≤ sizeLine; omega, fun w2 nw2 => ?_⟩
    refine ⟨w1, w2, _, _, rfl, rfl, same_new nw2 _ _ u1, upd_same, by show 12 + 10 ≤ sizeLine; omega, fun w3 nw3 => ?_⟩
    refine ⟨.ref w3, rfl, by show 6 ≤ sizeLine; omega, fun w4 nw4 => ?_⟩
    refine ⟨w3, w4, _, _, rfl, rfl, same_new nw4 _ _ upd_same, upd_same, by show 22 + 6 ≤ sizeLine; omega, fun w5 nw5 => ?_⟩
    have s3 := (((s2.trans (same_new (o := .lst [V.str "worths", V.str "waits", V.str "distance", V.str "two", V.str "rate", V.str "bars", V.str "ticks", V.str "station", V.str "pace", V.str "text"]) nw2)).trans (same_new (o := .lst ([V.str "work", V.str "line", V.str "kind", V.str "one", V.str "plan", V.str "kinds", V.str "counts", V.str "state", V.str "choice", V.str "tick", V.str "lap", V.str "fitting"] ++ [V.str "worths", V.str "waits", V.str "distance", V.str "two", V.str "rate", V.str "bars", V.str "ticks", V.str "station", V.str "pace", V.str "text"])) nw3)).trans (same_new (o := .lst [V.str "nothing", V.str "many", V.str "far", V.str "long", V.str "clash", V.str "soon"]) nw4)).trans (same_new (o := .lst (([V.str "work", V.str "line", V.str "kind", V.str "one", V.str "plan", V.str "kinds", V.str "counts", V.str "state", V.str "choice", V.str "tick", V.str "lap", V.str "fitting"] ++ [V.str "worths", V.str "waits", V.str "distance", V.str "two", V.str "rate", V.str "bars", V.str "ticks", V.str "station", V.str "pace", V.str "text"]) ++ [V.str "nothing", V.str "many", V.str "far", V.str "long", V.str "clash", V.str "soon"])) nw5)
    have h9 := s3 _ _ h8
    have s4 := s1.trans s3
    have hb : mk j 0 (24 + 4) = ((List.range' 0 28).map fun m => decide (m = j)).map V.bl := by
      unfold mk; rw [List.map_map]; rfl
    refine ⟨.ref l8, rfl, .inl ⟨rfl, _, .of h9⟩, l8, _, rfl, rfl, .of (hb ▸ h9), ?_⟩
    rw [mk_count j KO.lt]
    refine ⟨rfl, _, rfl, iteF ?_⟩
    refine ⟨.ref p.1, rfl, .ty "ValueError", .type "ValueError", true, rfl, (fun u r => r), KO.val, true, rfl, iteF ?_⟩
    refine ⟨.ref w5, rfl, .ref l8, rfl, .inl ⟨rfl, _, .of h9⟩, l8, _, .bl true, j, .bl true, rfl, rfl, .of h9, rfl, ?_, mk_at KO.lt, rfl, fun m z' hm hz' => ?_, ?_⟩
    · unfold mk
      rw [List.all_map, List.all_eq_true]
      exact fun _ _ => rfl
    · rw [mk_no KO.lt hm] at hz'
      rw [← Option.some.inj hz']; rfl
    · refine ⟨w5, _, (j : Nat), .str wd, rfl, rfl, .of upd_same, atI_nat ?_, q _ s4⟩
      show (kWords.map V.str)[j]? = _
      rw [List.getElem?_map, hw]; rfl
end
end Sg
set_option Elab.async false
set_option linter.all false
set_option maxRecDepth 100000
set_option maxHeartbeats 4000000
namespace Sg
open PySem PySem.Spec PyProof.Rows L2 StX
theorem PSs.imp {X : Cx} {sts : List Stmt} {t t' : TS} (h : PSs X sts t) (i : ∀ D σ H, t' D σ H → t D σ H) : PSs X sts t' := ⟨fun pins s σ H D I q => h.run pins s σ H D I (i _ _ _ q)⟩
theorem takes_len {X : Cx} {W : WX} (t : Takes X W) : Takes X (fun cls d σ H => σ.length = X.N.length → W cls d σ H) := fun u s' ⟨a, B, sI, pins, σ, H, cls, d, e, I, nb, up, sky, na, os, ag, w⟩ =>
  t u s' ⟨a, B, sI, pins, σ, H, cls, d, e, I, nb, up, sky, na, os, ag, w I.len⟩
theorem words_short : ∀ w ∈ kWords, w.length ≤ 20 := by decide +kernel
/-- what the told def wishes of an exception -/
def SaidE (K : PySem.W.Frag) (C : Nat → Addr) (Gap : Addr) (Q : VK) : XK := fun cls d H => ∃ Dc j wd, cls = .ref Dc ∧ d = none ∧ KindOk K C Dc j ∧ kWords[j]? = some wd ∧ wd ≠ ("many" : Str) ∧ wd ≠ ("far" : Str) ∧ PySem.W.exmOne K (.ref Dc) (.ref Gap) = some true ∧
  ∀ H', Same H H' → Q (.str ("! " ++ wd)) H'
def TSaid (K : PySem.W.Frag) (C : Nat → Addr) (Gap : Addr) : (XK → Hp → VK → Prop) → Hp → VK → Prop := fun tl H Q =>
  tl (SaidE K C Gap Q) H (fun v H' => ∃ v' d, [v] = [v'] ∧ Aq K H' v' d ∧ GoodD d ∧ Q (.str d.shown) H')
theorem said_gives {X : Cx} {q : Str} {g f1 Gap : Addr} {fd1 : FuncData} {cdg : Value} {k : Nat} {C : Nat → Addr} (hgd : X.A.guards = some []) (hr : Room (k + 1) X.A)
    (G1 : FnE X.prog X.w X.K X.mg X.base k f1 fd1 ["_law_e"] (spKind X.K C)) (kp1 : PySem.W.keepIn X.K (.ref f1) = true) (b1 : Binds X.K fd1 ["_law_e"] []) (g1 : X.mg "_law_kind" = some (.ref f1))
    (hme : X.mg "GapError" = some (.ref Gap)) (m1 : X.mg "repr" = none) :
    LamX.GivesTo X ["_law_call", "_law_e", "_law_word"] "_law_said" (defScope s_l_said) g cdg (defBody s_l_said) "_law_call" q (TSaid X.K C Gap) := by
  intro f c' s H Q tl act hc h
  have big : 1000 ≤ sizeLine := by rw [sizeLine_eq]; decide
  have hr' := hr.deeper (envOfC "_law_said" (defScope s_l_said) s.heap.objs.size g cdg)
  refine ⟨_, pss_one (ps_try_as (X := (cxOf C8.CX0 X.prog X.w X.K X.mg X.base ["_law_call", "_law_e", "_law_word"] "_law_said" (defScope s_l_said) g cdg X.A X.stack s H C8.E0).nox) (c := .ref Gap) (i := 1)
      (tb := fun W D σ H => ∃ Ech : XK, (∀ cls d σ' H', Ech cls d H' → σ'.length = 3 → W cls d σ' H') ∧ σ[0]? = some (some (.ref f)) ∧ H c' = some (LamX.CodeO c' q) ∧ tl Ech H (fun v H' => ∃ v' d, [v] = [v'] ∧ Aq X.K H' v' d ∧ GoodD d ∧ D.rt (.str d.shown) H'))
      (ts := fun a cls d D σ H => (∃ x y z, σ = [x, y, z]) ∧ σ[1]? = some (some (.ref a)) ∧ ∃ Dc j wd, cls = .ref Dc ∧ d = none ∧ KindOk X.K C Dc j ∧ kWords[j]? = some wd ∧ wd ≠ ("many" : Str) ∧ wd ≠ ("far" : Str) ∧ ∀ H', Same H H' → D.rt (.str ("! " ++ wd)) H')
      rfl rfl sc_l_said.nd rfl rfl ⟨by rfl, by decide, .inl hme⟩ LamX.takes0 (fun W pn xe tk _ => ?_) (fun a oe cls d pn hz hf => ?_)), ?_⟩
  · refine ⟨fun pins s' σ H' D I h' => ?_⟩
    obtain ⟨Ech, hW, h1, h2, h3⟩ := h'
    have hp := fun p1 p2 => act _ pn xe Ech p1 p2 (takes_len tk) hW
    refine PSs.run (pss_one (ps_ret (pe_callB (call_reprA (X := ((cxOf C8.CX0 X.prog X.w X.K X.mg X.base ["_law_call", "_law_e", "_law_word"] "_law_said" (defScope s_l_said) g cdg X.A X.stack s H C8.E0).nox).tr pn xe) hgd (j := k) ⟨hr'.hd, hr'.dp, hr'.un⟩) (by rfl) m1 (by decide +kernel) (pa_cons (hp _ _) pa_nil)))) pins s' σ H' D I ⟨h1, h2, h3⟩
  · refine PSs.imp (pss_cons (ps_set (i := 2) sc_l_said.nd rfl (.inl rfl) (pe_callE G1 List.mem_cons_self ⟨hr'.dp, hr'.un⟩ (by rfl) g1 kp1 b1 (pa_cons (pv 1) pa_nil)))
      (pss_cons (ps_if (pt_cmpR op_eq (pv 2) pe_str (nomark _)) (pss_one ps_never) pss_nil)
      (pss_cons (ps_if (pt_cmpR op_eq (pv 2) pe_str (nomark _)) (pss_one ps_never) pss_nil)
      (pss_one (ps_ret (pe_op op_add_str pe_str (pv 2))))))) fun D σ H h => ?_
    obtain ⟨⟨x, y, z, rfl⟩, hy, Dc, j, wd, rfl, rfl, KO, hw, n1, n2, qq⟩ := h
    refine ⟨.ref a, hy, Dc, j, wd, KO, hw, rfl, hz, hf, fun H' e => ?_⟩
    have d1 : decide (V.str wd = V.str "many") = false := decide_eq_false fun z => n1 (V.str.inj z)
    have d2 : decide (V.str wd = V.str "far") = false := decide_eq_false fun z => n2 (V.str.inj z)
    have ls := words_short wd (List.mem_of_getElem? hw)
    refine ⟨.str wd, rfl, rfl, _, rfl, ?_⟩
    rw [d1]
    refine iteF ⟨.str wd, rfl, rfl, _, rfl, ?_⟩
    rw [d2]
    refine iteF ⟨.str wd, rfl, _, _, rfl, rfl, ?_, qq _ e⟩
    show 2 + wd.length ≤ _
    omega
  · refine ⟨SaidE X.K C Gap Q, fun cls d σ' H' ⟨Dc, j, wd, e1, e2, KO, hw, n1, n2, ex, qq⟩ hl => ?_, rfl, hc, h⟩
    obtain ⟨x, y, z, rfl⟩ : ∃ x y z, σ' = [x, y, z] := by
      match σ', hl with
      | [x, y, z], _ => exact ⟨x, y, z, rfl⟩
    rw [e1]
    exact ⟨true, ex, fun _ a ha => ⟨⟨_, _, _, rfl⟩, rfl, Dc, j, wd, rfl, e2, KO, hw, n1, n2, qq⟩, fun z => nomatch z⟩
end Sg
set_option Elab.async false
set_option linter.all false
set_option maxRecDepth 100000
set_option maxHeartbeats 4000000
namespace Sg
open PySem PySem.Spec PyProof.Rows L2 StX
theorem ext_upd {H H' : Hp} {l : Addr} {u : HO} (e : LamX.ExtN H H') (h : ∀ o, H l = some o → ∃ ps, o = .tbl ps) : LamX.ExtN H (upd H' l u) := fun b o g n => by
  by_cases z : b = l
  · subst z
    obtain ⟨ps, rfl⟩ := h o g
    exact absurd rfl (n ps)
  · rw [upd_ne z]; exact e _ _ g n
theorem tabs_upd {T : List (Addr × Str)} {H : Hp} {l : Addr} {xs : List V} {o : HO} (h : H l = some (.lst xs)) (t : LamX.Tabs T H) : LamX.Tabs T (upd H l o) := fun x hx => by
  obtain ⟨ps, h1, h2, h3⟩ := t x hx
  refine ⟨ps, by rw [upd_ne (ne_of h1 h fun z => nomatch z)]; exact h1, h2, fun pos cv hc => ?_⟩
  obtain ⟨c, e1, e2⟩ := h3 pos cv hc
  exact ⟨c, e1, by rw [upd_ne (ne_of e2 h fun z => by unfold LamX.CodeO at z; exact nomatch z)]; exact e2⟩
def lamQ (x : Str) : Str := (x ++ (".<locals>." : Str)) ++ ("<lambda>" : Str)
structure SaidOkG (K : PySem.W.Frag) (C : Nat → Addr) (Gap D : Addr) (j : Nat) (wd : Str) : Prop where
  ko : KindOk K C D j
  w : kWords[j]? = some wd
  n1 : wd ≠ ("many" : Str)
  n2 : wd ≠ ("far" : Str)
  ex : PySem.W.exmOne K (.ref D) (.ref Gap) = some true
theorem SaidOkG.said {K : PySem.W.Frag} {C : Nat → Addr} {Gap D : Addr} {j : Nat} {wd : Str} (h : SaidOkG K C Gap D j wd) {Q : VK} {H : Hp} (q : ∀ H', Same H H' → Q (.str ("! " ++ wd)) H') : SaidE K C Gap Q (.ref D) none H :=
  ⟨D, j, wd, rfl, rfl, h.ko, h.w, h.n1, h.n2, h.ex, q⟩
theorem LineAt.ext {K : PySem.W.Frag} {C a : Addr} {H H' : Hp} {ws : List (List Int)} (h : LineAt K C H a ws) (e : LamX.ExtN H H') : LineAt K C H' a ws :=
  h.stay ⟨fun _ _ z => ext_tup e z, fun _ _ _ _ z => e _ _ z fun ps y => nomatch y⟩
section
variable {P : Program} {w : World} {K : PySem.W.Frag} {mg : Str → Option Value} {base : Heap}
def wLn : Str := "! " ++ "line"
def spLineRefused (K : PySem.W.Frag) (T : List (Addr × Str)) : Sp := fun vs H Q _ => ∃ v, vs = [v] ∧ (∀ H1, LamX.ExtN H H1 → PlainV K H1 v) ∧ LamX.Tabs T H ∧ ∀ H', LamX.ExtN H H' → LamX.Tabs T H' → Q (.bl true) H'
theorem ok_l_line_refused {f fs ff fm f1 CL Cl Ce Cw Gap c P' : Addr} {fd fds fdf fdm fd1 : FuncData} {k : Nat} {C : Nat → Addr} {T : List (Addr × Str)} (F : Fun K "_law_line_refused" "_law_line_refused" s_l_line_refused f fd) (hc : fd.code = .ref c) (TB : LamX.TabB base mg c P')
    (hmT0 : (P', lamQ "_law_line_refused") ∈ T) (hu0 : ∀ p ∈ T, p.1 = P' → p.2 = lamQ "_law_line_refused")
    (Fs : Fun K "_law_said" "_law_said" s_l_said fs fds) (kps : PySem.W.keepIn K (.ref fs) = true) (bs : Binds K fds ["_law_call"] []) (gs : mg "_law_said" = some (.ref fs))
    (G1 : FnE P w K mg base k f1 fd1 ["_law_e"] (spKind K C)) (kp1 : PySem.W.keepIn K (.ref f1) = true) (b1 : Binds K fd1 ["_law_e"] []) (g1 : mg "_law_kind" = some (.ref f1))
    (Gf : FnOk P w K mg base (L2.CX P w) k ff fdf ["line", "lap"] (spFitsA K CL Cl Ce)) (kpf : PySem.W.keepIn K (.ref ff) = true) (bf : Binds K fdf ["line", "lap"] []) (gf : mg "fits" = some (.ref ff))
    (Gm : FnOk P w K mg base (L2.CX P w) k fm fdm ["line", "lap", "worths"] (spMeanA K CL Cl Ce Cw)) (kpm : PySem.W.keepIn K (.ref fm) = true) (bm : Binds K fdm ["line", "lap", "worths"] []) (gm : mg "mean" = some (.ref fm))
    (SL : SaidOkG K C Gap Cl 1 "line") (SE : SaidOkG K C Gap Ce 10 "lap") (SW : SaidOkG K C Gap Cw 12 "worths") (hme : mg "GapError" = some (.ref Gap)) (m1 : mg "repr" = none) :
    FnG P w K mg base (k + 3) f fd ["_law_bad"] (spLineRefused K T) := by
  obtain ⟨ocs, ods, kVs, docs, pms, ans, cdvs, cts, osls, rfl, lks, hcds⟩ := Fs.ex
  refine fnG_mkC F hc sc_l_line_refused (fun vs H Q h => ?_) (fun A outer s H vs Q hgd hr h => ?_)
  · obtain ⟨v, rfl, _⟩ := h; rfl
  · obtain ⟨v, rfl, hp, hT, q⟩ := h
    have big : 1000 ≤ sizeLine := by rw [sizeLine_eq]; decide
    let X0 : Cx := (cxOf CX0 P w K mg base ["_law_bad", "_law_words"] "_law_line_refused" (defScope s_l_line_refused) f (.ref c) A outer s H E0).nox
    have eq0 : X0.env.qual ++ ("<lambda>" : Str) = lamQ "_law_line_refused" := rfl
    have hmT : (P', X0.env.qual ++ ("<lambda>" : Str)) ∈ T := by rw [eq0]; exact hmT0
    have hu : ∀ p ∈ T, p.1 = P' → p.2 = X0.env.qual ++ ("<lambda>" : Str) := by rw [eq0]; exact hu0
    have sg := fun (q : Str) => said_gives (X := X0) (q := q) (g := fs) (cdg := cdvs) (C := C) hgd (hr.mono (show k + 1 ≤ k + 2 by omega)) G1 kp1 b1 g1 hme m1
    have hu64 : X0.A.units + 64 < cLine := by
      have h := hr.un
      have e : X0.A.units = (A.deeper (envOfC "_law_line_refused" (defScope s_l_line_refused) s.heap.objs.size f (.ref c))).units := rfl
      omega
    refine ⟨_, pss_cons (ps_set (i := 1) sc_l_line_refused.nd rfl (.inl rfl) (pe_lst (pa_cons (LamX.pe_lamcall (T := T) (by rfl) gs kps lks hcds bs sc_l_said rfl (.inl rfl) (sg _) TB rfl hmT hu hr (LamX.lamS_by (by show LamX.lamSB (defScope s_l_line_refused) _ = true; decide +kernel)) rfl (fun _ _ _ _ _ => rfl)
          (fun A2 outer2 s2 H2 E2 f2 c2 hr2 => pe_callS Gf hr2 (by rfl) gf kpf bf (fun σ => passAt (takes_of rfl rfl rfl rfl) σ) (pa_cons (pv 0) (pa_cons pe_non pa_nil)))) pa_nil)))
      (pss_cons (ps_expr (pe_bm PySem.F.plainAttrs_list PySem.F.slot_list_append PySem.F.type_list_append mt_append (pv 1) (pa_cons (LamX.pe_lamcall (T := T) (by rfl) gs kps lks hcds bs sc_l_said rfl (.inl rfl) (sg _) TB rfl hmT hu hr (LamX.lamS_by (by show LamX.lamSB (defScope s_l_line_refused) _ = true; decide +kernel)) rfl (fun _ _ _ _ _ => rfl)
          (fun A2 outer2 s2 H2 E2 f2 c2 hr2 => pe_callS Gm hr2 (by rfl) gm kpm bm (fun σ => passAt (takes_of rfl rfl rfl rfl) σ) (pa_cons (pv 0) (pa_cons pe_non (pa_cons pe_non pa_nil))))) pa_nil)))
      (pss_one (ps_ret (pe_cmpR (op_eqD hu64) (pv 1) (pe_op op_rep (pe_lst (pa_cons pe_str pa_nil)) pe_int) (nomark _))))), ?_⟩
    have SLs : ∀ {Q : VK} {H : Hp}, (∀ H', Same H H' → Q (.str wLn) H') → SaidE K C Gap Q (.ref Cl) none H := fun q => SL.said q
    refine ⟨hT, fun H1 e1 T1 => ⟨v, rfl, v, .non, rfl, .inl ⟨hp H1 e1, SLs fun H3 s3 => ?_⟩⟩⟩
    have x3 := e1.trans (ext_of s3)
    have T3 := tabs_same s3 T1
    refine ⟨by show 1 ≤ sizeLine; omega, fun l nl => ?_⟩
    have x4 := x3.trans (ext_of (same_new (o := .lst [V.str wLn]) nl))
    have T4 := tabs_same (same_new (o := .lst [V.str wLn]) nl) T3
    have h4 : (upd H3 l (.lst [V.str wLn])) l = some (.lst [V.str wLn]) := upd_same
    have nl0 : ∀ o, H l = some o → ∃ ps, o = .tbl ps := fun o z => ext_free x3 nl z
    generalize upd H3 l (.lst [V.str wLn]) = H4 at x4 T4 h4 ⊢
    refine ⟨.ref l, rfl, .inl ⟨rfl, _, .of h4⟩, T4, fun J5 e5 T5 => ⟨v, rfl, v, .non, .non, rfl, .inl ⟨hp J5 (x4.trans e5), SLs fun J7 s7 => ?_⟩⟩⟩
    have h5 := s7 _ _ (e5 _ _ h4 fun ps z => nomatch z)
    refine ⟨l, _, _, rfl, rfl, h5, by show 1 < sizeLine; omega, ?_⟩
    have x5 := ext_upd (u := .lst ([V.str wLn] ++ [V.str wLn])) ((x4.trans e5).trans (ext_of s7)) nl0
    have T6 := tabs_upd (o := .lst ([V.str wLn] ++ [V.str wLn])) h5 (tabs_same s7 T5)
    have h6 : (upd J7 l (.lst ([V.str wLn] ++ [V.str wLn]))) l = some (.lst [V.str wLn, V.str wLn]) := upd_same
    generalize upd J7 l (.lst ([V.str wLn] ++ [V.str wLn])) = H6 at x5 T6 h6 ⊢
    refine ⟨.ref l, rfl, by show 1 ≤ sizeLine; omega, fun r nr => ⟨r, 2, _, rfl, rfl, upd_same, by decide, by decide, by show 1 * 2 ≤ sizeLine; omega, fun r2 nr2 => ?_⟩⟩
    have y1 := (same_new (o := .lst [V.str "! line"]) nr).trans (same_new (o := .lst (List.replicate (2 : Int).toNat [V.str "! line"]).flatten) nr2)
    have h11 := y1 _ _ h6
    have hr2 : (upd (upd H6 r (.lst [V.str "! line"])) r2 (.lst (List.replicate (2 : Int).toNat [V.str "! line"]).flatten)) r2 = some (.lst [V.str "! line", V.str "! line"]) := upd_same
    have x11 := x5.trans (ext_of y1)
    have T11 := tabs_same y1 T6
    generalize upd (upd H6 r (.lst [V.str "! line"])) r2 (.lst (List.replicate (2 : Int).toNat [V.str "! line"]).flatten) = H11 at x11 T11 h11 hr2 ⊢
    refine ⟨.list [.str wLn, .str wLn], .list [.str "! line", .str "! line"], .lst (.of h11) (.cons (.str _) (.cons (.str _) .nil)), .lst (.of hr2) (.cons (.str _) (.cons (.str _) .nil)), by decide +kernel, by decide +kernel, ?_⟩
    rw [show PyData.eqv (.list [.str wLn, .str wLn]) (.list [.str "! line", .str "! line"]) = true from by decide +kernel]
    exact q H11 x11 T11
end
end Sg
set_option Elab.async false
set_option linter.all false
set_option maxRecDepth 100000
set_option maxHeartbeats 4000000
namespace Sg
open PySem PySem.Spec PyProof.Rows L2 StX
theorem gain_most {n : Nat} {wt : List Int} (hw : GoodWt n wt) : ∀ lp : List Int, gainN wt lp ≤ 20 * lp.length
  | [] => Int.le_refl _
  | x :: r => by
    have h1 := gain_most hw r
    have h2 : worthN wt x ≤ 20 := by
      unfold worthN
      split
      · decide
      · rw [List.getD_eq_getElem?_getD]
        cases e : wt[x.toNat]? with
        | none => decide
        | some y => exact (hw.items y (List.mem_of_getElem? e)).2
    show (worthN wt x :: r.map (worthN wt)).sum ≤ _
    rw [List.sum_cons, List.length_cons]
    unfold gainN at h1
    omega
theorem smL_nat {i : Int} (h : i.natAbs < 10 ^ 12) : SmL 1 [PyData.int i] := by
  refine ⟨?_, ?_, ?_, ?_⟩
  · simp only [PyData.showableAll, PyData.showable, Bool.and_true, decide_eq_true_eq]
    have h40 : i.natAbs < 2 ^ 40 := Nat.lt_of_lt_of_le h (by decide)
    by_cases z : i.natAbs = 0
    · rw [z]; decide
    · have := (Nat.log2_lt z).mpr h40
      omega
  · simp only [PyData.depthAll, PyData.depth]; omega
  · simp only [PyData.leavesShortAll, PyData.leavesShort, Bool.and_true, decide_eq_true_eq]
    have := PyData.shown_int_le h
    omega
  · simp only [PyData.bulkAll, PyData.bulk]; omega
theorem frac_good {m : Nat} {wt lp : List Int} (hw : GoodWt m wt) (hg : GoodLap m lp) : GoodD (tD (fracL (gainN wt lp) lp.length)) ∧ (tD (fracL (gainN wt lp) lp.length)).bulk ≤ 900 := by
  have h1 := gain_pos hw lp
  have h2 := gain_most hw lp
  have h3 := hg.pos
  have h4 := hg.most
  have g0 : 0 < Nat.gcd (gainN wt lp).natAbs (lp.length : Int).natAbs := Nat.gcd_pos_of_pos_right _ (by omega)
  have key : SmL 2 (iD (fracL (gainN wt lp) lp.length)) := by
    unfold fracL
    generalize Nat.gcd (gainN wt lp).natAbs (lp.length : Int).natAbs = g at g0
    have e1 : 0 ≤ gainN wt lp / (g : Nat) := Int.ediv_nonneg h1 (by omega)
    have e2 : gainN wt lp / (g : Nat) ≤ gainN wt lp := Int.ediv_le_self _ h1
    have e3 : 0 ≤ (lp.length : Int) / (g : Nat) := Int.ediv_nonneg (by omega) (by omega)
    have e4 : (lp.length : Int) / (g : Nat) ≤ lp.length := Int.ediv_le_self _ (by omega)
    exact SmL.cons (smL_nat (by omega)) (smL_nat (by omega))
  exact key.tupS (by decide)
theorem no_wt_none {n : Nat} : ¬ WtD n .none := fun ⟨_, z, _⟩ => nomatch z
def wLp : Str := "! " ++ "lap"
def wWt : Str := "! " ++ "worths"
section
variable {P : Program} {w : World} {K : PySem.W.Frag} {mg : Str → Option Value} {base : Heap}
def spLapRight (K : PySem.W.Frag) (CL : Addr) (T : List (Addr × Str)) : Sp := fun vs H Q _ => ∃ (x t cw : Addr) (zs : List V) (ws : List (List Int)) (wt : List Int) (v : V) (d : PyData), vs = [.ref x, .ref t, .ref cw, v] ∧ LineAt K CL H x ws ∧ SqT K H t zs ∧ zs.length = ws.length ∧ ws.length ≤ 3 ∧
  SqT K H cw (wt.map V.int) ∧ GoodWt ws.length wt ∧ Aq K H v d ∧ GoodD d ∧ d.bulk ≤ 900 ∧ LamX.Tabs T H ∧ ∀ H', LamX.ExtN H H' → LamX.Tabs T H' → Q (.bl true) H'
set_option maxHeartbeats 8000000 in
theorem ok_l_lap_right {f fs ff fm f1 fi fn CL Cl Ce Cw Gap c P' : Addr} {fd fds fdf fdm fd1 fdi fdn : FuncData} {k : Nat} {C : Nat → Addr} {T : List (Addr × Str)} (F : Fun K "_law_lap_right" "_law_lap_right" s_l_lap_right f fd) (hc : fd.code = .ref c) (TB : LamX.TabB base mg c P')
    (hmT0 : (P', lamQ "_law_lap_right") ∈ T) (hu0 : ∀ p ∈ T, p.1 = P' → p.2 = lamQ "_law_lap_right")
    (Fs : Fun K "_law_said" "_law_said" s_l_said fs fds) (kps : PySem.W.keepIn K (.ref fs) = true) (bs : Binds K fds ["_law_call"] []) (gs : mg "_law_said" = some (.ref fs))
    (G1 : FnE P w K mg base k f1 fd1 ["_law_e"] (spKind K C)) (kp1 : PySem.W.keepIn K (.ref f1) = true) (b1 : Binds K fd1 ["_law_e"] []) (g1 : mg "_law_kind" = some (.ref f1))
    (Gf : FnOk P w K mg base (L2.CX P w) k ff fdf ["line", "lap"] (spFitsA K CL Cl Ce)) (kpf : PySem.W.keepIn K (.ref ff) = true) (bf : Binds K fdf ["line", "lap"] []) (gf : mg "fits" = some (.ref ff))
    (Gm : FnOk P w K mg base (L2.CX P w) k fm fdm ["line", "lap", "worths"] (spMeanA K CL Cl Ce Cw)) (kpm : PySem.W.keepIn K (.ref fm) = true) (bm : Binds K fdm ["line", "lap", "worths"] []) (gm : mg "mean" = some (.ref fm))
    (SL : SaidOkG K C Gap Cl 1 "line") (SE : SaidOkG K C Gap Ce 10 "lap") (SW : SaidOkG K C Gap Cw 12 "worths") (hme : mg "GapError" = some (.ref Gap)) (m1 : mg "repr" = none)
    (Gi : FnOk P w K mg base CX0 (k + 2) fi fdi ["_law_works_here", "_law_thing"] (spLIs K LapD)) (kpi : PySem.W.keepIn K (.ref fi) = true) (bi : Binds K fdi ["_law_works_here", "_law_thing"] []) (gi : mg "_law_is_lap" = some (.ref fi))
    (Gn : FnOk P w K mg base CX0 (k + 2) fn fdn ["_law_lap_here", "_law_worths_here"] (spLMean K)) (kpn : PySem.W.keepIn K (.ref fn) = true) (bn : Binds K fdn ["_law_lap_here", "_law_worths_here"] []) (gn : mg "_law_mean" = some (.ref fn)) :
    FnG P w K mg base (k + 3) f fd ["_law_made_here", "_law_works_here", "_law_worths_here", "_law_thing"] (spLapRight K CL T) := by
  obtain ⟨ocs, ods, kVs, docs, pms, ans, cdvs, cts, osls, rfl, lks, hcds⟩ := Fs.ex
  refine fnG_mkC F hc sc_l_lap_right (fun vs H Q h => ?_) (fun A outer s H vs Q hgd hr h => ?_)
  · obtain ⟨x, t, cw, zs, ws, wt, v, d, rfl, _⟩ := h; rfl
  · obtain ⟨x, t, cw, zs, ws, wt, v, d, rfl, hL, hZ, lz, few, hC, hw, hd, hG, hb, hT, q⟩ := h
    have big : 1000 ≤ sizeLine := by rw [sizeLine_eq]; decide
    let X0 : Cx := (cxOf CX0 P w K mg base ["_law_made_here", "_law_works_here", "_law_worths_here", "_law_thing", "_law_kept", "_law_words"] "_law_lap_right" (defScope s_l_lap_right) f (.ref c) A outer s H E0).nox
    have eq0 : X0.env.qual ++ ("<lambda>" : Str) = lamQ "_law_lap_right" := rfl
    have hmT : (P', X0.env.qual ++ ("<lambda>" : Str)) ∈ T := by rw [eq0]; exact hmT0
    have hu : ∀ p ∈ T, p.1 = P' → p.2 = X0.env.qual ++ ("<lambda>" : Str) := by rw [eq0]; exact hu0
    have sg := fun (q : Str) => said_gives (X := X0) (q := q) (g := fs) (cdg := cdvs) (C := C) hgd (hr.mono (show k + 1 ≤ k + 2 by omega)) G1 kp1 b1 g1 hme m1
    have hu64 : X0.A.units + 64 < cLine := by
      have h := hr.un
      have e : X0.A.units = (A.deeper (envOfC "_law_lap_right" (defScope s_l_lap_right) s.heap.objs.size f (.ref c))).units := rfl
      omega
    refine ⟨_, pss_cons (ps_par (i := 4) (j := 5) (by rfl) sc_l_lap_right.nd rfl rfl (by decide) rfl rfl (pa_cons (pe_callB (call_reprA hgd hr) (by rfl) m1 (by decide +kernel) (pa_cons (pv 3) pa_nil))
        (pa_cons (pe_lst (pa_cons (LamX.pe_lamcall (T := T) (by rfl) gs kps lks hcds bs sc_l_said rfl (.inl rfl) (sg _) TB rfl hmT hu hr (LamX.lamS_by (by show LamX.lamSB (defScope s_l_lap_right) _ = true; decide +kernel)) rfl (fun _ _ _ _ _ => rfl)
          (fun A2 outer2 s2 H2 E2 f2 c2 hr2 => pe_callS Gf hr2 (by rfl) gf kpf bf (fun σ => passAt (takes_of rfl rfl rfl rfl) σ) (pa_cons (pv 0) (pa_cons (pv 3) pa_nil)))) pa_nil)) pa_nil)) (by rfl))
      (pss_cons (ps_expr (pe_bm PySem.F.plainAttrs_list PySem.F.slot_list_append PySem.F.type_list_append mt_append (pv 5) (pa_cons (LamX.pe_lamcall (T := T) (by rfl) gs kps lks hcds bs sc_l_said rfl (.inl rfl) (sg _) TB rfl hmT hu hr (LamX.lamS_by (by show LamX.lamSB (defScope s_l_lap_right) _ = true; decide +kernel)) rfl (fun _ _ _ _ _ => rfl)
          (fun A2 outer2 s2 H2 E2 f2 c2 hr2 => pe_callS Gm hr2 (by rfl) gm kpm bm (fun σ => passAt (takes_of rfl rfl rfl rfl) σ) (pa_cons (pv 0) (pa_cons (pv 3) (pa_cons pe_non pa_nil))))) pa_nil)))
      (pss_cons (ps_expr (pe_bm PySem.F.plainAttrs_list PySem.F.slot_list_append PySem.F.type_list_append mt_append (pv 5) (pa_cons (LamX.pe_lamcall (T := T) (by rfl) gs kps lks hcds bs sc_l_said rfl (.inl rfl) (sg _) TB rfl hmT hu hr (LamX.lamS_by (by show LamX.lamSB (defScope s_l_lap_right) _ = true; decide +kernel)) rfl (fun _ _ _ _ _ => rfl)
          (fun A2 outer2 s2 H2 E2 f2 c2 hr2 => pe_callS Gm hr2 (by rfl) gm kpm bm (fun σ => passAt (takes_of rfl rfl rfl rfl) σ) (pa_cons (pv 0) (pa_cons (pv 3) (pa_cons (pv 2) pa_nil))))) pa_nil)))
      (pss_cons (ps_if (pt_cmpR op_ne (pe_callB (call_reprA hgd hr) (by rfl) m1 (by decide +kernel) (pa_cons (pv 3) pa_nil)) (pv 4) (nomark _)) (pss_one ps_never) pss_nil)
      (pss_cons (ps_if (pt_not (pt_val (pe_call Gi hr (by rfl) gi kpi bi .nil pass0 (pa_cons (pv 1) (pa_cons (pv 3) pa_nil)))))
        (pss_one (ps_ret (pe_cmpR (op_eqV hu64) (pv 5) (pe_op op_rep (pe_lst (pa_cons pe_str pa_nil)) pe_int) (nomark _)))) pss_nil)
      (pss_one (ps_ret (pe_and (pe_cmpR op_in_seq (pe_ix ix_list (pv 5) pe_int (fun _ _ => rfl)) (pe_tup (pa_cons pe_str (pa_cons pe_str pa_nil))) (by with_unfolding_all rfl))
        (pe_one (pe_cmpR (op_eqV hu64) (pe_slice sl_list (pv 5) (po_some pe_int) po_none) (pe_lst (pa_cons pe_str (pa_cons (pe_callB (call_reprA hgd hr) (by rfl) m1 (by decide +kernel) (pa_cons (pe_call Gn hr (by rfl) gn kpn bn .nil pass0 (pa_cons (pv 3) (pa_cons (pv 2) pa_nil))) pa_nil)) pa_nil))) (nomark _)))))))))), ?_⟩
    have SEs : ∀ {Q : VK} {H : Hp}, (∀ H', Same H H' → Q (.str wLp) H') → SaidE K C Gap Q (.ref Ce) none H := fun q => SE.said q
    have SWs : ∀ {Q : VK} {H : Hp}, (∀ H', Same H H' → Q (.str wWt) H') → SaidE K C Gap Q (.ref Cw) none H := fun q => SW.said q
    -- the three words, whatever they are: what follows
    by_cases hlap : LapD ws.length d
    case neg =>
      refine ⟨v, rfl, v, d, rfl, hd, hG, hT, fun H1 e1 T1 => ⟨.ref x, rfl, v, rfl, .ref x, v, rfl, .inr ⟨x, ws, d, rfl, hL.ext e1, hd.ext e1, hb, fun _ H2 s2 => SEs fun H3 s3 => ?_, fun z => absurd z hlap⟩⟩⟩
      have x3 := e1.trans (ext_of (s2.trans s3))
      have T3 := tabs_same (s2.trans s3) T1
      refine ⟨by show 1 ≤ sizeLine; omega, fun l nl => ⟨_, _, rfl, ?_⟩⟩
      have x4 := x3.trans (ext_of (same_new (o := .lst [V.str wLp]) nl))
      have T4 := tabs_same (same_new (o := .lst [V.str wLp]) nl) T3
      have h4 : (upd H3 l (.lst [V.str wLp])) l = some (.lst [V.str wLp]) := upd_same
      have nl0 : ∀ o, H l = some o → ∃ ps, o = .tbl ps := fun o z => ext_free x3 nl z
      generalize upd H3 l (.lst [V.str wLp]) = H4 at x4 T4 h4 ⊢
      refine ⟨.ref l, rfl, .inl ⟨rfl, _, .of h4⟩, T4, fun J5 e5 T5 => ⟨.ref x, rfl, v, rfl, .ref x, v, .non, rfl, .inr ⟨x, ws, d, rfl, hL.ext (x4.trans e5), hd.ext (x4.trans e5), hb, .inl ⟨hlap, fun J6 s6 => SEs fun J7 s7 => ?_⟩⟩⟩⟩
      have h5 := (s6.trans s7) _ _ (e5 _ _ h4 fun ps z => nomatch z)
      refine ⟨l, _, _, rfl, rfl, h5, by show 1 < sizeLine; omega, ?_⟩
      have x5 := ext_upd (u := .lst ([V.str wLp] ++ [V.str wLp])) ((x4.trans e5).trans (ext_of (s6.trans s7))) nl0
      have T6 := tabs_upd (o := .lst ([V.str wLp] ++ [V.str wLp])) h5 (tabs_same (s6.trans s7) T5)
      have h6 : (upd J7 l (.lst ([V.str wLp] ++ [V.str wLp]))) l = some (.lst ([V.str wLp] ++ [V.str wLp])) := upd_same
      generalize upd J7 l (.lst ([V.str wLp] ++ [V.str wLp])) = H6 at x5 T6 h6 ⊢
      refine ⟨.ref l, rfl, .inl ⟨rfl, _, .of h6⟩, T6, fun K5 f5 U5 => ⟨.ref x, rfl, v, rfl, .ref cw, rfl, .ref x, v, .ref cw, rfl, .inr ⟨x, ws, d, rfl, hL.ext (x5.trans f5), hd.ext (x5.trans f5), hb, .inl ⟨hlap, fun K6 t6 => SEs fun K7 t7 => ?_⟩⟩⟩⟩
      have h7 := (t6.trans t7) _ _ (f5 _ _ h6 fun ps z => nomatch z)
      refine ⟨l, _, _, rfl, rfl, h7, by show 2 < sizeLine; omega, ?_⟩
      have x7 := ext_upd (u := .lst (([V.str wLp] ++ [V.str wLp]) ++ [V.str wLp])) ((x5.trans f5).trans (ext_of (t6.trans t7))) nl0
      have T8 := tabs_upd (o := .lst (([V.str wLp] ++ [V.str wLp]) ++ [V.str wLp])) h7 (tabs_same (t6.trans t7) U5)
      have h8 : (upd K7 l (.lst (([V.str wLp] ++ [V.str wLp]) ++ [V.str wLp]))) l = some (.lst [V.str wLp, V.str wLp, V.str wLp]) := upd_same
      generalize upd K7 l (.lst (([V.str wLp] ++ [V.str wLp]) ++ [V.str wLp])) = H8 at x7 T8 h8 ⊢
      refine ⟨v, rfl, v, d, rfl, hd.ext x7, hG, .str d.shown, rfl, rfl, _, rfl, ?_⟩
      rw [decide_eq_true rfl]
      refine iteF ⟨.ref t, rfl, v, rfl, t, zs, v, d, rfl, ext_tup x7 hZ, hd.ext x7, hb, fun H9 bb s9 hbb => ⟨bb, rfl, ?_⟩⟩
      rw [lz] at hbb
      cases bb with
      | true => exact absurd (hbb.mp rfl) hlap
      | false =>
        refine iteT ⟨.ref l, rfl, by show 1 ≤ sizeLine; omega, fun r nr => ⟨r, 3, _, rfl, rfl, upd_same, by decide, by decide, by show 1 * 3 ≤ sizeLine; omega, fun r2 nr2 => ?_⟩⟩
        have y1 := (s9.trans (same_new (o := .lst [V.str "! lap"]) nr)).trans (same_new (o := .lst (List.replicate (3 : Int).toNat [V.str "! lap"]).flatten) nr2)
        have h11 := y1 _ _ h8
        have hr2 : (upd (upd H9 r (.lst [V.str "! lap"])) r2 (.lst (List.replicate (3 : Int).toNat [V.str "! lap"]).flatten)) r2 = some (.lst [V.str "! lap", V.str "! lap", V.str "! lap"]) := upd_same
        have x11 := x7.trans (ext_of y1)
        have T11 := tabs_same y1 T8
        generalize upd (upd H9 r (.lst [V.str "! lap"])) r2 (.lst (List.replicate (3 : Int).toNat [V.str "! lap"]).flatten) = H11 at x11 T11 h11 hr2 ⊢
        have ew : wLp = ("! lap" : Str) := by decide +kernel
        refine ⟨1, by decide, .inl ⟨l, r2, _, _, rfl, rfl, .of h11, .of hr2, ?_⟩, q H11 x11 T11⟩
        rw [ew]
        exact .cons (.inl ⟨rfl, rfl⟩) (.cons (.inl ⟨rfl, rfl⟩) (.cons (.inl ⟨rfl, rfl⟩) .nil))
    -- a lap
    obtain ⟨lp, rfl, hg⟩ := hlap
    obtain ⟨b, rfl, hB⟩ := aq_ints hd
    have LP : LapD ws.length (tD lp) := ⟨lp, rfl, hg⟩
    have FG := frac_good hw hg
    have hbw : (tD wt).bulk ≤ 900 := by
      simp only [PyData.bulk, bulk_ints]
      have := hw.len
      omega
    generalize hfr : fracL (gainN wt lp) lp.length = fr at FG
    refine ⟨.ref b, rfl, .ref b, tD lp, rfl, hd, hG, hT, fun H1 e1 T1 => ⟨.ref x, rfl, .ref b, rfl, .ref x, .ref b, rfl, .inr ⟨x, ws, tD lp, rfl, hL.ext e1, hd.ext e1, hb, fun z => absurd LP z, fun _ H3 r3 s3 => ⟨.bl r3, .bool r3, rfl, .data (.bl r3), by cases r3 <;> exact good_by (by decide +kernel), ?_⟩⟩⟩⟩
    have x3 := e1.trans (ext_of s3)
    have T3 := tabs_same s3 T1
    generalize hw0 : (PyData.bool r3).shown = w0
    refine ⟨by show 1 ≤ sizeLine; omega, fun l nl => ⟨_, _, rfl, ?_⟩⟩
    have x4 := x3.trans (ext_of (same_new (o := .lst [V.str w0]) nl))
    have T4 := tabs_same (same_new (o := .lst [V.str w0]) nl) T3
    have h4 : (upd H3 l (.lst [V.str w0])) l = some (.lst [V.str w0]) := upd_same
    have nl0 : ∀ o, H l = some o → ∃ ps, o = .tbl ps := fun o z => ext_free x3 nl z
    generalize upd H3 l (.lst [V.str w0]) = H4 at x4 T4 h4 ⊢
    refine ⟨.ref l, rfl, .inl ⟨rfl, _, .of h4⟩, T4, fun J5 e5 T5 => ⟨.ref x, rfl, .ref b, rfl, .ref x, .ref b, .non, rfl, .inr ⟨x, ws, tD lp, rfl, hL.ext (x4.trans e5), hd.ext (x4.trans e5), hb, .inr ⟨lp, .none, rfl, hg, .data .non, by simp only [PyData.bulk]; omega, .inl ⟨no_wt_none, fun J6 s6 => SWs fun J7 s7 => ?_⟩⟩⟩⟩⟩
    have h5 := (s6.trans s7) _ _ (e5 _ _ h4 fun ps z => nomatch z)
    refine ⟨l, _, _, rfl, rfl, h5, by show 1 < sizeLine; omega, ?_⟩
    have x5 := ext_upd (u := .lst ([V.str w0] ++ [V.str wWt])) ((x4.trans e5).trans (ext_of (s6.trans s7))) nl0
    have T6 := tabs_upd (o := .lst ([V.str w0] ++ [V.str wWt])) h5 (tabs_same (s6.trans s7) T5)
    have h6 : (upd J7 l (.lst ([V.str w0] ++ [V.str wWt]))) l = some (.lst ([V.str w0] ++ [V.str wWt])) := upd_same
    generalize upd J7 l (.lst ([V.str w0] ++ [V.str wWt])) = H6 at x5 T6 h6 ⊢
    refine ⟨.ref l, rfl, .inl ⟨rfl, _, .of h6⟩, T6, fun K5 f5 U5 => ⟨.ref x, rfl, .ref b, rfl, .ref cw, rfl, .ref x, .ref b, .ref cw, rfl, .inr ⟨x, ws, tD lp, rfl, hL.ext (x5.trans f5), hd.ext (x5.trans f5), hb, .inr ⟨lp, tD wt, rfl, hg, .data (.tup (ext_tup (x5.trans f5) hC) (dpInts wt)), hbw, .inr ⟨wt, rfl, hw, fun K7 pr t7 hpr => ?_⟩⟩⟩⟩⟩
    rw [hfr] at hpr
    refine ⟨.ref pr, tD fr, rfl, .data (.tup hpr (dpInts fr)), FG.1, ?_⟩
    have h7 := t7 _ _ (f5 _ _ h6 fun ps z => nomatch z)
    generalize hw2 : (tD fr).shown = w2
    refine ⟨l, _, _, rfl, rfl, h7, by show 2 < sizeLine; omega, ?_⟩
    have x7 := ext_upd (u := .lst (([V.str w0] ++ [V.str wWt]) ++ [V.str w2])) ((x5.trans f5).trans (ext_of t7)) nl0
    have T8 := tabs_upd (o := .lst (([V.str w0] ++ [V.str wWt]) ++ [V.str w2])) h7 (tabs_same t7 U5)
    have h8 : (upd K7 l (.lst (([V.str w0] ++ [V.str wWt]) ++ [V.str w2]))) l = some (.lst [V.str w0, V.str wWt, V.str w2]) := upd_same
    generalize upd K7 l (.lst (([V.str w0] ++ [V.str wWt]) ++ [V.str w2])) = H8 at x7 T8 h8 ⊢
    refine ⟨.ref b, rfl, .ref b, tD lp, rfl, hd.ext x7, hG, .str (tD lp).shown, rfl, rfl, _, rfl, ?_⟩
    rw [decide_eq_true rfl]
    refine iteF ⟨.ref t, rfl, .ref b, rfl, t, zs, .ref b, tD lp, rfl, ext_tup x7 hZ, hd.ext x7, hb, fun H9 bb s9 hbb => ⟨bb, rfl, ?_⟩⟩
    rw [lz] at hbb
    obtain rfl : bb = true := hbb.mpr LP
    have x9 := x7.trans (ext_of s9)
    have h9 := s9 _ _ h8
    have T9 := tabs_same s9 T8
    refine iteF ⟨.ref l, rfl, l, _, 0, .str w0, rfl, rfl, .of h9, atI0, by show 2 ≤ sizeLine; omega, fun r nr => ?_⟩
    have inT : inV (.str w0) [V.str "True", V.str "False"] = true := by
      rw [← hw0]; cases r3 <;> decide +kernel
    refine ⟨r, _, rfl, .inr (.of upd_same), rfl, rfl, _, rfl, ?_⟩
    show (if inV (.str w0) [V.str "True", V.str "False"] = true then _ else _)
    rw [inT]
    have sr := same_new (o := .tup [V.str "True", V.str "False"]) nr
    have h10 := sr _ _ h9
    have x10 := x9.trans (ext_of sr)
    have T10 := tabs_same sr T9
    generalize upd H9 r (.tup [V.str "True", V.str "False"]) = H10 at h10 x10 T10 ⊢
    refine iteT ⟨.ref l, rfl, _, rfl, l, _, rfl, .of h10, fun r2 nr2 => ?_⟩
    have s2 := same_new (o := .lst (cutV [V.str w0, V.str wWt, V.str w2] (some 1) none)) nr2
    have hr2 : (upd H10 r2 (.lst (cutV [V.str w0, V.str wWt, V.str w2] (some 1) none))) r2 = some (.lst [V.str wWt, V.str w2]) := upd_same
    have x11 := x10.trans (ext_of s2)
    have T11 := tabs_same s2 T10
    generalize upd H10 r2 (.lst (cutV [V.str w0, V.str wWt, V.str w2] (some 1) none)) = H11 at hr2 x11 T11 ⊢
    refine ⟨.ref b, rfl, .ref cw, rfl, b, cw, ws.length, lp, wt, rfl, ext_tup x11 hB, hg, ext_tup x11 hC, hw, fun H12 p2 s12 hp2 => ?_⟩
    rw [hfr] at hp2
    refine ⟨.ref p2, tD fr, rfl, .data (.tup hp2 (dpInts fr)), FG.1, ?_⟩
    rw [hw2]
    refine ⟨by show 2 ≤ sizeLine; omega, fun r3' nr3 => ?_⟩
    have s13 := same_new (o := .lst [V.str "! worths", V.str w2]) nr3
    have ew : wWt = ("! worths" : Str) := by decide +kernel
    refine ⟨1, by decide, .inl ⟨r2, r3', _, _, rfl, rfl, .of (s13 _ _ (s12 _ _ hr2)), .of upd_same, ?_⟩, q _ ((x11.trans (ext_of s12)).trans (ext_of s13)) (tabs_same (s12.trans s13) T11)⟩
    rw [ew]
    exact .cons (.inl ⟨rfl, rfl⟩) (.cons (.inl ⟨rfl, rfl⟩) .nil)
end
end Sg
set_option Elab.async false
set_option linter.all false
set_option maxRecDepth 100000
set_option maxHeartbeats 4000000
namespace Sg
open PySem PySem.Spec PyProof.Rows L2 StX
section
variable {P : Program} {w : World} {K : PySem.W.Frag} {mg : Str → Option Value} {base : Heap}
def spWtRight (K : PySem.W.Frag) (CL : Addr) (T : List (Addr × Str)) : Sp := fun vs H Q _ => ∃ (x t b : Addr) (zs : List V) (ws : List (List Int)) (lp : List Int) (v : V) (d : PyData), vs = [.ref x, .ref t, .ref b, v] ∧ LineAt K CL H x ws ∧ SqT K H t zs ∧ zs.length = ws.length ∧
  SqT K H b (lp.map V.int) ∧ GoodLap ws.length lp ∧ Aq K H v d ∧ GoodD d ∧ d.bulk ≤ 900 ∧ LamX.Tabs T H ∧ ∀ H', LamX.ExtN H H' → LamX.Tabs T H' → Q (.bl true) H'
theorem ok_l_worths_right {f fs ff fm f1 fi fn CL Cl Ce Cw Gap c P' : Addr} {fd fds fdf fdm fd1 fdi fdn : FuncData} {k : Nat} {C : Nat → Addr} {T : List (Addr × Str)} (F : Fun K "_law_worths_right" "_law_worths_right" s_l_worths_right f fd) (hc : fd.code = .ref c) (TB : LamX.TabB base mg c P')
    (hmT0 : (P', lamQ "_law_worths_right") ∈ T) (hu0 : ∀ p ∈ T, p.1 = P' → p.2 = lamQ "_law_worths_right")
    (Fs : Fun K "_law_said" "_law_said" s_l_said fs fds) (kps : PySem.W.keepIn K (.ref fs) = true) (bs : Binds K fds ["_law_call"] []) (gs : mg "_law_said" = some (.ref fs))
    (G1 : FnE P w K mg base k f1 fd1 ["_law_e"] (spKind K C)) (kp1 : PySem.W.keepIn K (.ref f1) = true) (b1 : Binds K fd1 ["_law_e"] []) (g1 : mg "_law_kind" = some (.ref f1))
    (Gf : FnOk P w K mg base (L2.CX P w) k ff fdf ["line", "lap"] (spFitsA K CL Cl Ce)) (kpf : PySem.W.keepIn K (.ref ff) = true) (bf : Binds K fdf ["line", "lap"] []) (gf : mg "fits" = some (.ref ff))
    (Gm : FnOk P w K mg base (L2.CX P w) k fm fdm ["line", "lap", "worths"] (spMeanA K CL Cl Ce Cw)) (kpm : PySem.W.keepIn K (.ref fm) = true) (bm : Binds K fdm ["line", "lap", "worths"] []) (gm : mg "mean" = some (.ref fm))
    (SL : SaidOkG K C Gap Cl 1 "line") (SE : SaidOkG K C Gap Ce 10 "lap") (SW : SaidOkG K C Gap Cw 12 "worths") (hme : mg "GapError" = some (.ref Gap)) (m1 : mg "repr" = none)
    (Gi : FnOk P w K mg base CX0 (k + 2) fi fdi ["_law_works_here", "_law_thing"] (spLIs K WtD)) (kpi : PySem.W.keepIn K (.ref fi) = true) (bi : Binds K fdi ["_law_works_here", "_law_thing"] []) (gi : mg "_law_are_worths" = some (.ref fi))
    (Gn : FnOk P w K mg base CX0 (k + 2) fn fdn ["_law_lap_here", "_law_worths_here"] (spLMean K)) (kpn : PySem.W.keepIn K (.ref fn) = true) (bn : Binds K fdn ["_law_lap_here", "_law_worths_here"] []) (gn : mg "_law_mean" = some (.ref fn)) :
    FnG P w K mg base (k + 3) f fd ["_law_made_here", "_law_works_here", "_law_lap_here", "_law_thing"] (spWtRight K CL T) := by
  obtain ⟨ocs, ods, kVs, docs, pms, ans, cdvs, cts, osls, rfl, lks, hcds⟩ := Fs.ex
  refine fnG_mkC F hc sc_l_worths_right (fun vs H Q h => ?_) (fun A outer s H vs Q hgd hr h => ?_)
  · obtain ⟨x, t, b, zs, ws, lp, v, d, rfl, _⟩ := h; rfl
  · obtain ⟨x, t, b, zs, ws, lp, v, d, rfl, hL, hZ, lz, hB, hg, hd, hG, hb, hT, q⟩ := h
    have big : 1000 ≤ sizeLine := by rw [sizeLine_eq]; decide
    let X0 : Cx := (cxOf CX0 P w K mg base ["_law_made_here", "_law_works_here", "_law_lap_here", "_law_thing", "_law_kept", "_law_word", "_law_due"] "_law_worths_right" (defScope s_l_worths_right) f (.ref c) A outer s H E0).nox
    have eq0 : X0.env.qual ++ ("<lambda>" : Str) = lamQ "_law_worths_right" := rfl
    have hmT : (P', X0.env.qual ++ ("<lambda>" : Str)) ∈ T := by rw [eq0]; exact hmT0
    have hu : ∀ p ∈ T, p.1 = P' → p.2 = X0.env.qual ++ ("<lambda>" : Str) := by rw [eq0]; exact hu0
    have sg := fun (q : Str) => said_gives (X := X0) (q := q) (g := fs) (cdg := cdvs) (C := C) hgd (hr.mono (show k + 1 ≤ k + 2 by omega)) G1 kp1 b1 g1 hme m1
    have hu64 : X0.A.units + 64 < cLine := by
      have h := hr.un
      have e : X0.A.units = (A.deeper (envOfC "_law_worths_right" (defScope s_l_worths_right) s.heap.objs.size f (.ref c))).units := rfl
      omega
    refine ⟨_, pss_cons (ps_par (i := 4) (j := 5) (by rfl) sc_l_worths_right.nd rfl rfl (by decide) rfl rfl (pa_cons (pe_callB (call_reprA hgd hr) (by rfl) m1 (by decide +kernel) (pa_cons (pv 3) pa_nil))
        (pa_cons (LamX.pe_lamcall (T := T) (by rfl) gs kps lks hcds bs sc_l_said rfl (.inl rfl) (sg _) TB rfl hmT hu hr (LamX.lamS_by (by show LamX.lamSB (defScope s_l_worths_right) _ = true; decide +kernel)) rfl (fun _ _ _ _ _ => rfl)
          (fun A2 outer2 s2 H2 E2 f2 c2 hr2 => pe_callS Gm hr2 (by rfl) gm kpm bm (fun σ => passAt (takes_of rfl rfl rfl rfl) σ) (pa_cons (pv 0) (pa_cons (pv 2) (pa_cons (pv 3) pa_nil))))) pa_nil)) (by rfl))
      (pss_cons (ps_set (i := 6) sc_l_worths_right.nd rfl (.inl rfl) (pe_ifExp (pt_val (pe_call Gi hr (by rfl) gi kpi bi .nil pass0 (pa_cons (pv 1) (pa_cons (pv 3) pa_nil))))
        (pe_callB (call_reprA hgd hr) (by rfl) m1 (by decide +kernel) (pa_cons (pe_call Gn hr (by rfl) gn kpn bn .nil pass0 (pa_cons (pv 2) (pa_cons (pv 3) pa_nil))) pa_nil)) pe_str))
      (pss_one (ps_ret (pe_and (pe_cmpR op_eq (pv 5) (pv 6) (nomark _)) (pe_one (pe_cmpR op_eq (pe_callB (call_reprA hgd hr) (by rfl) m1 (by decide +kernel) (pa_cons (pv 3) pa_nil)) (pv 4) (nomark _))))))), ?_⟩
    have SWs : ∀ {Q : VK} {H : Hp}, (∀ H', Same H H' → Q (.str wWt) H') → SaidE K C Gap Q (.ref Cw) none H := fun q => SW.said q
    have hbl : (tD lp).bulk ≤ 900 := by
      simp only [PyData.bulk, bulk_ints]
      exact hg.most
    have LP : LapD ws.length (tD lp) := ⟨lp, rfl, hg⟩
    by_cases hwt : WtD ws.length d
    case neg =>
      refine ⟨v, rfl, v, d, rfl, hd, hG, hT, fun H1 e1 T1 => ⟨.ref x, rfl, .ref b, rfl, v, rfl, .ref x, .ref b, v, rfl, .inr ⟨x, ws, tD lp, rfl, hL.ext e1, .data (.tup (ext_tup e1 hB) (dpInts lp)), hbl, .inr ⟨lp, d, rfl, hg, hd.ext e1, hb, .inl ⟨hwt, fun H2 s2 => SWs fun H3 s3 => ⟨_, _, rfl, ?_⟩⟩⟩⟩⟩⟩
      have x3 := e1.trans (ext_of (s2.trans s3))
      have T3 := tabs_same (s2.trans s3) T1
      refine ⟨.ref t, rfl, v, rfl, t, zs, v, d, rfl, ext_tup x3 hZ, hd.ext x3, hb, fun H4 bb s4 hbb => ⟨bb, rfl, ?_⟩⟩
      rw [lz] at hbb
      cases bb with
      | true => exact absurd (hbb.mp rfl) hwt
      | false =>
        refine iteF ⟨.str wWt, rfl, .str "! worths", rfl, rfl, _, rfl, ?_⟩
        have ew : wWt = ("! worths" : Str) := by decide +kernel
        rw [ew, decide_eq_true rfl]
        have x4 := x3.trans (ext_of s4)
        refine iteT ⟨v, rfl, v, d, rfl, hd.ext x4, hG, .str d.shown, rfl, rfl, ?_⟩
        rw [decide_eq_true rfl]
        exact q H4 x4 (tabs_same s4 T3)
    obtain ⟨wt, rfl, hw⟩ := hwt
    obtain ⟨cw, rfl, hC⟩ := aq_ints hd
    have WT : WtD ws.length (tD wt) := ⟨wt, rfl, hw⟩
    have FG := frac_good hw hg
    generalize hfr : fracL (gainN wt lp) lp.length = fr at FG
    refine ⟨.ref cw, rfl, .ref cw, tD wt, rfl, hd, hG, hT, fun H1 e1 T1 => ⟨.ref x, rfl, .ref b, rfl, .ref cw, rfl, .ref x, .ref b, .ref cw, rfl, .inr ⟨x, ws, tD lp, rfl, hL.ext e1, .data (.tup (ext_tup e1 hB) (dpInts lp)), hbl, .inr ⟨lp, tD wt, rfl, hg, hd.ext e1, hb, .inr ⟨wt, rfl, hw, fun H3 pr s3 hpr => ?_⟩⟩⟩⟩⟩
    rw [hfr] at hpr
    refine ⟨.ref pr, tD fr, rfl, .data (.tup hpr (dpInts fr)), FG.1, ⟨_, _, rfl, ?_⟩⟩
    have x3 := e1.trans (ext_of s3)
    have T3 := tabs_same s3 T1
    refine ⟨.ref t, rfl, .ref cw, rfl, t, zs, .ref cw, tD wt, rfl, ext_tup x3 hZ, hd.ext x3, hb, fun H4 bb s4 hbb => ⟨bb, rfl, ?_⟩⟩
    rw [lz] at hbb
    obtain rfl : bb = true := hbb.mpr WT
    have x4 := x3.trans (ext_of s4)
    refine iteT ⟨.ref b, rfl, .ref cw, rfl, b, cw, ws.length, lp, wt, rfl, ext_tup x4 hB, hg, ext_tup x4 hC, hw, fun H5 p2 s5 hp2 => ?_⟩
    rw [hfr] at hp2
    refine ⟨.ref p2, tD fr, rfl, .data (.tup hp2 (dpInts fr)), FG.1, ?_⟩
    have x5 := x4.trans (ext_of s5)
    refine ⟨.str (tD fr).shown, rfl, .str (tD fr).shown, rfl, rfl, _, rfl, ?_⟩
    rw [decide_eq_true rfl]
    refine iteT ⟨.ref cw, rfl, .ref cw, tD wt, rfl, hd.ext x5, hG, .str (tD wt).shown, rfl, rfl, ?_⟩
    rw [decide_eq_true rfl]
    exact q H5 x5 (tabs_same (s4.trans s5) T3)
end
end Sg
set_option Elab.async false
set_option linter.all false
set_option maxRecDepth 100000
set_option maxHeartbeats 4000000
namespace Sg
open PySem PySem.Spec PyProof.Rows L2 StX
/-! ## rows of expressions, told of the names -/
def tQ (S : L2.St → Hp → Prop) (R : L2.St → Hp → V → Prop) : TE := fun σ H Q => S σ H ∧ ∀ H' v, Same H H' → R σ H' v → Q v H'
def tQs (S : L2.St → Hp → Prop) (R : L2.St → Hp → V → Prop) (n : Nat) : TA := fun σ H Q => S σ H ∧ ∀ H' vs, Same H H' → (∀ v ∈ vs, R σ H' v) → vs.length = n → Q vs H'
section
variable {X : Cx} {S : L2.St → Hp → Prop} {R : L2.St → Hp → V → Prop}
theorem pa_q0 : PA X [] (tQs S R 0) := ⟨fun pos pins s σ H Q I h => pa_nil.run pos pins s σ H Q I (h.2 H [] (same_refl H) (fun v hv => nomatch hv) rfl)⟩
theorem pa_q {e : Expr} {es : List Expr} {n : Nat} (stS : ∀ σ H H', Same H H' → S σ H → S σ H') (stR : ∀ σ H H' v, Same H H' → R σ H v → R σ H' v) (h : PE X e (tQ S R)) (g : PA X es (tQs S R n))
    (he : starEach (e :: es) X.env = (false, eval e X.env) :: starEach es X.env := by rfl) : PA X (e :: es) (tQs S R (n + 1)) := by
  refine ⟨fun pos pins s σ H Q I q => (pa_cons h g he).run pos pins s σ H Q I ?_⟩
  refine ⟨q.1, fun H1 v e1 hv => ⟨stS _ _ _ e1 q.1, fun H2 vs e2 hvs hl => q.2 H2 (v :: vs) (e1.trans e2) (fun u hu => ?_) (congrArg (· + 1) hl)⟩⟩
  rcases List.mem_cons.mp hu with z | z
  · rw [z]; exact stR _ _ _ _ e2 hv
  · exact hvs u z
theorem PE.q {e : Expr} {t : TE} (h : PE X e t) (i : ∀ σ H Q, S σ H → (∀ H' v, Same H H' → R σ H' v → Q v H') → t σ H Q) : PE X e (tQ S R) := PE.imp h fun σ H Q q => i σ H Q q.1 q.2
end
/-! ## a list of short data, past some draws -/
structure LB (K : PySem.W.Frag) (p : Addr) (H0 H : Hp) (n : Nat) (l : Addr) : Prop where
  bt : But p H0 H
  pen : PenAt H p
  nu : H0 l = none
  ex : ∃ xs, H l = some (.lst xs) ∧ (∀ v ∈ xs, AnyS K (wo p H) v) ∧ xs.length ≤ n
theorem LB.cat {K : PySem.W.Frag} {p : Addr} {H0 H H' : Hp} {n m : Nat} {l l' : Addr} (hp0 : PenAt H0 p) (h : LB K p H0 H n l) (g : LB K p H H' m l') (e : n + m ≤ 1000) {Q : VK} (q : ∀ H'' a, LB K p H0 H'' (n + m) a → Q (.ref a) H'') : rCat (.ref l) (.ref l') H' Q := by
  obtain ⟨xs, h1, h2, h3⟩ := h.ex
  obtain ⟨ys, g1, g2, g3⟩ := g.ex
  have big : 1000 ≤ sizeLine := by rw [sizeLine_eq]; decide
  have nlp : l ≠ p := fun z => by
    obtain ⟨_, _, _, hp, _⟩ := hp0
    have := h.nu
    rw [z, hp] at this; exact nomatch this
  refine ⟨l, l', xs, ys, rfl, rfl, g.bt _ _ nlp h1, g1, by omega, fun a na => q _ a ⟨(h.bt.trans g.bt).trans (.of (same_new na)), g.pen.new na, ?_, xs ++ ys, upd_same, fun v hv => ?_, by rw [List.length_append]; omega⟩⟩
  · exact hp0.free g.pen (h.bt.trans g.bt) na
  · rcases List.mem_append.mp hv with hv | hv
    · exact ((h2 v hv).same (wo_but g.bt)).same (wo_same (same_new na))
    · exact (g2 v hv).same (wo_same (same_new na))
/-- so many times the same: short data -/
theorem rep_anyS {K : PySem.W.Frag} {H : Hp} {p a : Addr} {v : V} {d : PyData} {k : Nat} (hp : PenAt H p) (hv : Dp K (wo p H) v d) (g : SmL 1 [d]) (hk : k ≤ 900) (h : SqT K H a (List.replicate k [v]).flatten) : AnyS K (wo p H) (.ref a) :=
  ⟨_, .data (.tup (hp.wo h) (DpAll.rep (.cons hv .nil) k)), (g.rep k).tupS (by omega)⟩
section
variable {P : Program} {w : World} {K : PySem.W.Frag} {mg : Str → Option Value} {base : Heap}
theorem LB.odds {p : Addr} {H0 H : Hp} {l : Addr} {xs : List V} (hp : PenAt H0 p) (e : Same H0 H) (h0 : H0 l = none) (h1 : H l = some (.lst xs)) (h2 : AllS K (nw H0 H) xs) (h3 : xs.length ≤ 100) : LB K p H0 H 100 l := by
  obtain ⟨_, _, _, hp', _⟩ := id hp
  exact ⟨.of e, hp.same e, h0, xs, h1, fun v hv => (h2 v hv).same (nw_wo hp'), h3⟩
/-- what stands throughout -/
structure LawH (K : PySem.W.Frag) (CL : Addr) (T : List (Addr × Str)) (L p t x b c : Addr) (cs : List Int) (ws : List (List Int)) (zs : List V) (lp wt : List Int) (H : Hp) : Prop where
  lst : H L = some (.lst (cs.map V.int))
  pen : PenAt H p
  tz : SqT K H t zs
  line : LineAt K CL H x ws
  lb : SqT K H b (lp.map V.int)
  wc : SqT K H c (wt.map V.int)
  tab : LamX.Tabs T H
  nLp : L ≠ p
  lz : zs.length = ws.length
  few : ws.length ≤ 3
  least : 1 ≤ ws.length
  hg : GoodLap ws.length lp
  hl : lp.length ≤ 100
  hw : GoodWt ws.length wt
section
variable {CL : Addr} {T : List (Addr × Str)} {L p t x b c : Addr} {cs : List Int} {ws : List (List Int)} {zs : List V} {lp wt : List Int} {H H' : Hp}
theorem LawH.ext (h : LawH K CL T L p t x b c cs ws zs lp wt H) (e : LamX.ExtN H H') (T' : LamX.Tabs T H') : LawH K CL T L p t x b c cs ws zs lp wt H' :=
  ⟨e _ _ h.lst (fun ps z => nomatch z), h.pen.ext e, ext_tup e h.tz, h.line.ext e, ext_tup e h.lb, ext_tup e h.wc, T', h.nLp, h.lz, h.few, h.least, h.hg, h.hl, h.hw⟩
theorem LawH.same (h : LawH K CL T L p t x b c cs ws zs lp wt H) (e : Same H H') : LawH K CL T L p t x b c cs ws zs lp wt H' := h.ext (ext_of e) (tabs_same e h.tab)
theorem LawH.but (h : LawH K CL T L p t x b c cs ws zs lp wt H) (e : But p H H') (p' : PenAt H' p) : LawH K CL T L p t x b c cs ws zs lp wt H' :=
  ⟨e _ _ h.nLp h.lst, p', h.pen.tup e h.tz, h.line.stay (.pen e h.pen), h.pen.tup e h.lb, h.pen.tup e h.wc, tabs_but h.pen e h.tab, h.nLp, h.lz, h.few, h.least, h.hg, h.hl, h.hw⟩
end
/-- the names and what they stand for -/
def LS (K : PySem.W.Frag) (CL : Addr) (T : List (Addr × Str)) (σ : L2.St) (H : Hp) : Prop := ∃ L p t x b c cs ws zs lp wt v0 v1 v7 v8 v9, σ = [v0, v1, some (.ref p), some (.ref t), some (.ref x), some (.ref b), some (.ref c), v7, v8, v9] ∧ LawH K CL T L p t x b c cs ws zs lp wt H
def RW (K : PySem.W.Frag) (σ : L2.St) (H : Hp) (v : V) : Prop := ∀ p, σ[2]? = some (some (V.ref p)) → AnyS K (wo p H) v
theorem stS {CL : Addr} {T : List (Addr × Str)} : ∀ σ (H H' : Hp), Same H H' → LS K CL T σ H → LS K CL T σ H' := fun σ H H' e ⟨L, p, t, x, b, c, cs, ws, zs, lp, wt, v0, v1, v7, v8, v9, e1, h⟩ => ⟨L, p, t, x, b, c, cs, ws, zs, lp, wt, v0, v1, v7, v8, v9, e1, h.same e⟩
theorem stR : ∀ σ (H H' : Hp) (v : V), Same H H' → RW K σ H v → RW K σ H' v := fun σ H H' v e h p hp => (h p hp).same (wo_same e)
end
end Sg
set_option Elab.async false
set_option linter.all false
set_option maxRecDepth 100000
set_option maxHeartbeats 4000000
namespace Sg
open PySem PySem.Spec PyProof.Rows L2 StX
section
variable {P : Program} {w : World} {K : PySem.W.Frag} {mg : Str → Option Value} {base : Heap}
theorem cut_map (xs : List Int) (lo hi : Option Int) : ∃ ys : List Int, cutV (xs.map V.int) lo hi = ys.map V.int ∧ ys.length ≤ xs.length := by
  unfold cutV
  refine ⟨(xs.drop (HT.sIx (xs.map V.int).length 0 lo)).take (HT.sIx (xs.map V.int).length (xs.map V.int).length hi - HT.sIx (xs.map V.int).length 0 lo), ?_, ?_⟩
  · rw [List.map_take, List.map_drop]
  · rw [List.length_take, List.length_drop]
    exact Nat.le_trans (Nat.min_le_right _ _) (Nat.sub_le _ _)
theorem LB.fresh {p : Addr} {H H' : Hp} {l : Addr} {vs : List V} {n : Nat} (hp : PenAt H p) (e : Same H H') (nl : H' l = none) (hv : ∀ v ∈ vs, AnyS K (wo p H') v) (hn : vs.length ≤ n) : LB K p H (upd H' l (.lst vs)) n l :=
  ⟨.of (e.trans (same_new nl)), (hp.same e).new nl, same_none e nl, vs, upd_same, fun v h => (hv v h).same (wo_same (same_new nl)), hn⟩
def spLaw (K : PySem.W.Frag) (T : List (Addr × Str)) : Sp := fun vs H Q _ => ∃ (a : Addr) (ns : List Int), vs = [.ref a] ∧ SqL K H a (ns.map V.int) ∧ ns.length ≤ 63 ∧ LamX.Tabs T H ∧ ∀ H', Q (.bl true) H'
set_option maxHeartbeats 16000000 in
theorem ok_law {f f1 f2 f3 f4 f5 f6 f7 f8 f9 f10 f11 f12 CL : Addr} {fd fd1 fd2 fd3 fd4 fd5 fd6 fd7 fd8 fd9 fd10 fd11 fd12 : FuncData} {k : Nat} {T : List (Addr × Str)} (F : Fun K "law" "law" s_law f fd)
    (G1 : FnOk P w K mg base CX0 k f1 fd1 ["_law_script", "_law_k"] (spCell K)) (kp1 : PySem.W.keepIn K (.ref f1) = true) (b1 : Binds K fd1 ["_law_script", "_law_k"] []) (g1 : mg "_law_cell" = some (.ref f1))
    (G2 : FnOk P w K mg base CX0 k f2 fd2 ["_law_cell_here"] spPen) (kp2 : PySem.W.keepIn K (.ref f2) = true) (b2 : Binds K fd2 ["_law_cell_here"] []) (g2 : mg "_law_pen" = some (.ref f2))
    (G3 : FnOk P w K mg base CX0 k f3 fd3 ["_law_pen_here"] (spWorks K)) (kp3 : PySem.W.keepIn K (.ref f3) = true) (b3 : Binds K fd3 ["_law_pen_here"] []) (g3 : mg "_law_works" = some (.ref f3))
    (G4 : FnOk P w K mg base CX0 k f4 fd4 ["_law_works_here"] (spMade K CL)) (kp4 : PySem.W.keepIn K (.ref f4) = true) (b4 : Binds K fd4 ["_law_works_here"] []) (g4 : mg "_law_made" = some (.ref f4))
    (G5 : FnOk P w K mg base CX0 k f5 fd5 ["_law_pen_here", "_law_many", "_law_most"] (spLLap K)) (kp5 : PySem.W.keepIn K (.ref f5) = true) (b5 : Binds K fd5 ["_law_pen_here", "_law_many", "_law_most"] []) (g5 : mg "_law_lap" = some (.ref f5))
    (G6 : FnOk P w K mg base CX0 k f6 fd6 ["_law_pen_here", "_law_many"] (spLWt K)) (kp6 : PySem.W.keepIn K (.ref f6) = true) (b6 : Binds K fd6 ["_law_pen_here", "_law_many"] []) (g6 : mg "_law_worths" = some (.ref f6))
    (G7 : FnOk P w K mg base CX0 k f7 fd7 [] (spAnysS K)) (kp7 : PySem.W.keepIn K (.ref f7) = true) (b7 : Binds K fd7 [] []) (g7 : mg "_law_odds" = some (.ref f7))
    (G8 : FnOk P w K mg base CX0 k f8 fd8 ["_law_pen_here", "_law_row"] (spBend K)) (kp8 : PySem.W.keepIn K (.ref f8) = true) (b8 : Binds K fd8 ["_law_pen_here", "_law_row"] []) (g8 : mg "_law_bend" = some (.ref f8))
    (G9 : FnG P w K mg base k f9 fd9 ["_law_made_here", "_law_works_here", "_law_worths_here", "_law_thing"] (spLapRight K CL T)) (kp9 : PySem.W.keepIn K (.ref f9) = true) (b9 : Binds K fd9 ["_law_made_here", "_law_works_here", "_law_worths_here", "_law_thing"] []) (g9 : mg "_law_lap_right" = some (.ref f9))
    (G10 : FnG P w K mg base k f10 fd10 ["_law_made_here", "_law_works_here", "_law_lap_here", "_law_thing"] (spWtRight K CL T)) (kp10 : PySem.W.keepIn K (.ref f10) = true) (b10 : Binds K fd10 ["_law_made_here", "_law_works_here", "_law_lap_here", "_law_thing"] []) (g10 : mg "_law_worths_right" = some (.ref f10))
    (G11 : FnOk P w K mg base CX0 k f11 fd11 [] (spAnys K)) (kp11 : PySem.W.keepIn K (.ref f11) = true) (b11 : Binds K fd11 [] []) (g11 : mg "_law_great" = some (.ref f11))
    (G12 : FnG P w K mg base k f12 fd12 ["_law_bad"] (spLineRefused K T)) (kp12 : PySem.W.keepIn K (.ref f12) = true) (b12 : Binds K fd12 ["_law_bad"] []) (g12 : mg "_law_line_refused" = some (.ref f12))
    (m1 : mg "range" = none) (m2 : mg "len" = none) (m3 : mg "list" = none) : FnG P w K mg base (k + 1) f fd ["_law_script"] (spLaw K T) := by
  refine fnG_mk F sc_law (fun vs H Q h => ?_) (fun cdv A outer s H vs Q hgd hr h => ?_)
  · obtain ⟨a, ns, rfl, _⟩ := h; rfl
  · obtain ⟨a, ns, rfl, hS, hlen, hT, q⟩ := h
    have big : 1000 ≤ sizeLine := by rw [sizeLine_eq]; decide
    have one : ∀ {σ : L2.St} {H : Hp}, LS K CL T σ H → ∃ L p t x b c cs ws zs lp wt, σ[2]? = some (some (V.ref p)) ∧ σ[3]? = some (some (V.ref t)) ∧ σ[5]? = some (some (V.ref b)) ∧ LawH K CL T L p t x b c cs ws zs lp wt H :=
      fun ⟨L, p, t, x, b, c, cs, ws, zs, lp, wt, v0, v1, v7, v8, v9, e1, h⟩ => ⟨L, p, t, x, b, c, cs, ws, zs, lp, wt, by rw [e1]; rfl, by rw [e1]; rfl, by rw [e1]; rfl, h⟩
    have pp : ∀ {σ : L2.St} {H : Hp} {p : Addr} {v : V}, σ[2]? = some (some (V.ref p)) → AnyS K (wo p H) v → RW K σ H v := fun h g p' hp' => by
      rw [h] at hp'
      cases hp'
      exact g
    have rr : ∀ {σ1 : L2.St} {H1 : Hp} {Q1 : VK} {p : Addr} (v : V) (d : PyData) (k : Nat), (∀ H', Dp K H' v d) → SmL 1 [d] → k ≤ 900 → PenAt H1 p → σ1[2]? = some (some (V.ref p)) → (∀ H' v, Same H1 H' → RW K σ1 H' v → Q1 v H') → ∀ r, H1 r = none → rRepS K (.ref r) (.int (k : Nat)) (upd H1 r (.tup [v])) Q1 :=
      @fun σ1 H1 Q1 p v d k hv g hk hp e2 q1 r nr => ⟨r, k, [v], rfl, rfl, .of upd_same, (fun z => nomatch z), by omega, by show 1 ≤ 1000; decide, fun H' u s hu => q1 H' _ ((same_new nr).trans s) (pp e2 (rep_anyS ((hp.new nr).same s) (hv _) g hk hu))⟩
    have r500 : ∀ {σ1 : L2.St} {H1 : Hp} {Q1 : VK}, LS K CL T σ1 H1 → (∀ H' v, Same H1 H' → RW K σ1 H' v → Q1 v H') → tOp (rRepS K) (tTup (tCons (tC (.int 0)) tNil)) (tC (.int 500)) σ1 H1 Q1 := @fun σ1 H1 Q1 hS q1 => by
      obtain ⟨L, p, t, x, b, c, cs, ws, zs, lp, wt, e2, e3, e5, h⟩ := one hS
      exact ⟨by show 1 ≤ sizeLine; omega, fun r nr => rr (.int 0) (.int 0) 500 (fun _ => .int 0) (smL_by (by decide +kernel)) (by decide) h.pen e2 q1 r nr⟩
    have rlen : ∀ {σ1 : L2.St} {H1 : Hp} {Q1 : VK}, LS K CL T σ1 H1 → (∀ H' v, Same H1 H' → RW K σ1 H' v → Q1 v H') → tTup (tCons (tCB (fun xs H Q => ∃ (a : Addr) (ys : List V), xs = [.ref a] ∧ SqT K H a ys ∧ Q (.int (ys.length : Nat)) H) (tCons (tVar 3) tNil)) tNil) σ1 H1 Q1 := @fun σ1 H1 Q1 hS q1 => by
      obtain ⟨L, p, t, x, b, c, cs, ws, zs, lp, wt, e2, e3, e5, h⟩ := one hS
      refine ⟨.ref t, e3, t, zs, rfl, h.tz, by show 1 ≤ sizeLine; omega, fun r nr => q1 _ _ (same_new nr) (pp e2 ⟨_, .data (.tup ((h.pen.new nr).wo (.of upd_same)) (.cons (.int _) .nil)), (smL_nat ?_).tupS (by decide)⟩)⟩
      have := h.few
      have := h.lz
      omega
    have rany : ∀ {σ1 : L2.St} {H1 : Hp} {Q1 : VK}, LS K CL T σ1 H1 → (∀ H' v, Same H1 H' → RW K σ1 H' v → Q1 v H') → tAnyS K σ1 H1 Q1 := @fun σ1 H1 Q1 hS q1 => by
      obtain ⟨L, p, t, x, b, c, cs, ws, zs, lp, wt, e2, e3, e5, h⟩ := one hS
      obtain ⟨_, _, _, hp, _⟩ := h.pen
      exact fun H' v e hv => q1 H' v e (pp e2 (hv.same (nw_wo hp)))
    have lapG : ∀ {n : Nat} {lp : List Int}, GoodLap n lp → n ≤ 3 → ∀ y ∈ lp, -1 ≤ y ∧ y ≤ 20 := fun hg hn y hy => by have := hg.items y hy; omega
    have rlist : ∀ {σ1 : L2.St} {H1 : Hp} {Q1 : VK}, LS K CL T σ1 H1 → (∀ H' v, Same H1 H' → RW K σ1 H' v → Q1 v H') → tCB (fun xs H Q => ∃ p ys, xs = [V.ref p] ∧ (SqL K H p ys ∨ SqT K H p ys) ∧ ∀ l, H l = none → Q (.ref l) (upd H l (.lst ys))) (tCons (tVar 5) tNil) σ1 H1 Q1 := @fun σ1 H1 Q1 hS q1 => by
      obtain ⟨L, p, t, x, b, c, cs, ws, zs, lp, wt, e2, e3, e5, h⟩ := one hS
      exact ⟨.ref b, e5, b, _, rfl, .inr h.lb, fun l nl => q1 _ _ (same_new nl) (pp e2 ⟨.list (iD lp), .data (.lst (.of ((wo_ne (Ne.symm (h.pen.ne nl))).trans upd_same)) (dpInts lp)), (smL_intsW (lapG h.hg h.few)).lstS (by have := h.hl; omega)⟩)⟩
    have rnone : ∀ {σ1 : L2.St} {H1 : Hp} {Q1 : VK}, LS K CL T σ1 H1 → (∀ H' v, Same H1 H' → RW K σ1 H' v → Q1 v H') → tOp (fun x y H Q => ∃ a b xs ys, x = V.ref a ∧ y = V.ref b ∧ SqT K H a xs ∧ SqT K H b ys ∧ xs.length + ys.length ≤ sizeLine ∧ ∀ H' c, Same H H' → SqT K H' c (xs ++ ys) → Q (V.ref c) H') (tVar 5) (tTup (tCons (tC .non) tNil)) σ1 H1 Q1 := @fun σ1 H1 Q1 hS q1 => by
      obtain ⟨L, p, t, x, b, c, cs, ws, zs, lp, wt, e2, e3, e5, h⟩ := one hS
      have ll : (lp.map V.int).length = lp.length := List.length_map _
      have := h.hl
      exact ⟨.ref b, e5, by show 1 ≤ sizeLine; omega, fun r nr => ⟨b, r, _, _, rfl, rfl, Same.tup (same_new nr) h.lb, .of upd_same, by show _ + 1 ≤ _; omega, fun H' c' s hc => q1 _ _ ((same_new nr).trans s) (pp e2 ⟨_, .data (.tup (((h.pen.new nr).same s).wo hc) (DpAll.app (dpInts lp) (.cons .non .nil))), ((smL_intsW (lapG h.hg h.few)).app (SmL.one (k := 1) (good_by (by decide +kernel)) (by decide) (by decide))).tupS (by omega)⟩)⟩⟩
    have rep1 : ∀ (v : V) (d : PyData), (∀ H', Dp K H' v d) → SmL 1 [d] → ∀ {σ1 : L2.St} {H1 : Hp} {Q1 : VK}, LS K CL T σ1 H1 → (∀ H' v, Same H1 H' → RW K σ1 H' v → Q1 v H') → tOp (rRepS K) (tTup (tCons (tC v) tNil)) (tCB (fun xs H Q => ∃ (a : Addr) (ys : List V), xs = [.ref a] ∧ SqT K H a ys ∧ Q (.int (ys.length : Nat)) H) (tCons (tVar 3) tNil)) σ1 H1 Q1 := fun v d hv g => @fun σ1 H1 Q1 hS q1 => by
      obtain ⟨L, p, t, x, b, c, cs, ws, zs, lp, wt, e2, e3, e5, h⟩ := one hS
      exact ⟨by show 1 ≤ sizeLine; omega, fun r nr => ⟨.ref t, e3, t, zs, rfl, Same.tup (same_new nr) h.tz, rr v d zs.length hv g (by have := h.few; have := h.lz; omega) h.pen e2 q1 r nr⟩⟩
    have rrepA : ∀ {σ1 : L2.St} {H1 : Hp} {Q1 : VK}, LS K CL T σ1 H1 → (∀ H' v, Same H1 H' → RW K σ1 H' v → Q1 v H') → tOp (rRepS K) (tTup (tCons (tC (.int 1)) tNil)) (tOp rAdd (tCB (fun xs H Q => ∃ (a : Addr) (ys : List V), xs = [.ref a] ∧ SqT K H a ys ∧ Q (.int (ys.length : Nat)) H) (tCons (tVar 3) tNil)) (tC (.int 1))) σ1 H1 Q1 := @fun σ1 H1 Q1 hS q1 => by
      obtain ⟨L, p, t, x, b, c, cs, ws, zs, lp, wt, e2, e3, e5, h⟩ := one hS
      exact ⟨by show 1 ≤ sizeLine; omega, fun r nr => ⟨.ref t, e3, t, zs, rfl, Same.tup (same_new nr) h.tz, _, 1, rfl, rfl, rr (.int 1) (.int 1) (zs.length + 1) (fun _ => .int 1) (smL_by (by decide +kernel)) (by have := h.few; have := h.lz; omega) h.pen e2 q1 r nr⟩⟩
    have rrepB : ∀ {σ1 : L2.St} {H1 : Hp} {Q1 : VK}, LS K CL T σ1 H1 → (∀ H' v, Same H1 H' → RW K σ1 H' v → Q1 v H') → tOp (rRepS K) (tTup (tCons (tC (.int 1)) tNil)) (tOp rSub (tCB (fun xs H Q => ∃ (a : Addr) (ys : List V), xs = [.ref a] ∧ SqT K H a ys ∧ Q (.int (ys.length : Nat)) H) (tCons (tVar 3) tNil)) (tC (.int 1))) σ1 H1 Q1 := @fun σ1 H1 Q1 hS q1 => by
      obtain ⟨L, p, t, x, b, c, cs, ws, zs, lp, wt, e2, e3, e5, h⟩ := one hS
      refine ⟨by show 1 ≤ sizeLine; omega, fun r nr => ⟨.ref t, e3, t, zs, rfl, Same.tup (same_new nr) h.tz, _, 1, rfl, rfl, ?_⟩⟩
      have e : ((zs.length : Nat) : Int) - 1 = ((zs.length - 1 : Nat) : Int) := by have := h.least; have := h.lz; omega
      rw [e]
      exact rr (.int 1) (.int 1) (zs.length - 1) (fun _ => .int 1) (smL_by (by decide +kernel)) (by have := h.few; have := h.lz; omega) h.pen e2 q1 r nr
    refine ⟨_, pss_cons (ps_for PassesOwn.never rfl (pi_list (pe_op op_cat (pe_lst (pa_cons (pe_call G1 hr (by rfl) g1 kp1 b1 .nil pass0 (pa_cons (pv 0) (pa_cons pe_int pa_nil))) pa_nil)) (pe_slice sl_list (pv 0) (po_some pe_int) (po_some pe_int)))) (pg_name (i := 1) sc_law.nd rfl (.inl rfl))
        (pss_cons (ps_set (i := 2) sc_law.nd rfl (.inr rfl) (pe_call G2 hr (by rfl) g2 kp2 b2 .nil pass0 (pa_cons (pv 1) pa_nil)))
        (pss_cons (ps_set (i := 3) sc_law.nd rfl (.inl rfl) (pe_call G3 hr (by rfl) g3 kp3 b3 .nil pass0 (pa_cons (pv 2) pa_nil)))
        (pss_cons (ps_asg (pe_tup (pa_cons (pe_call G4 hr (by rfl) g4 kp4 b4 .nil pass0 (pa_cons (pv 3) pa_nil)) (pa_cons (pe_call G5 hr (by rfl) g5 kp5 b5 .nil pass0 (pa_cons (pv 2) (pa_cons (pe_callB (call_len_sK (K := K) rfl) (by rfl) m2 PySem.boot_len (pa_cons (pv 3) pa_nil)) (pa_cons pe_int pa_nil)))) (pa_cons (pe_call G6 hr (by rfl) g6 kp6 b6 .nil pass0 (pa_cons (pv 2) (pa_cons (pe_callB (call_len_sK (K := K) rfl) (by rfl) m2 PySem.boot_len (pa_cons (pv 3) pa_nil)) pa_nil))) pa_nil))))
          (pg_tup rfl (pgs_cons (pg_name (i := 4) sc_law.nd rfl (.inl rfl)) (pgs_cons (pg_name (i := 5) sc_law.nd rfl (.inr rfl)) (pgs_cons (pg_name (i := 6) sc_law.nd rfl (.inr rfl)) pgs_nil)))))
        (pss_cons (ps_set (i := 7) sc_law.nd rfl (.inl rfl) (pe_op op_cat (pe_op op_cat (pe_call0 G7 hr (by rfl) g7 kp7 b7 .nil pass0) (pe_lc (own := [("_law_turn", 8)]) (g := gName 8) (tt := tYes) rfl sc_law.nd (pi_range1 (by rfl) m1 (pa_cons pe_int pa_nil)) (blkOk_by (N := ["_law_script", "_law_cell_here", "_law_pen_here", "_law_works_here", "_law_made_here", "_law_lap_here", "_law_worths_here", "_law_things", "_law_turn", "_law_thing"]) (sc := defScope s_law) (by decide +kernel))
            (fun _ _ _ _ _ => pg_name (i := 8) sc_law.nd rfl (Or.inl rfl)) (fun _ _ _ _ _ => pts_nil) (fun _ _ _ _ _ => (pe_call G8 hr (by rfl) g8 kp8 b8 .nil pass0 (pa_cons (pv 2) (pa_cons (pv 5) pa_nil)))))) (pe_lst (pa_q stS stR (PE.q (pe_op op_repS (pe_tup (pa_cons pe_int pa_nil)) pe_int) (fun σ1 H1 Q1 hS q1 => r500 hS q1)) (pa_q stS stR (PE.q (pe_tup (pa_cons (pe_callB (call_len_sK (K := K) rfl) (by rfl) m2 PySem.boot_len (pa_cons (pv 3) pa_nil)) pa_nil)) (fun σ1 H1 Q1 hS q1 => rlen hS q1)) (pa_q stS stR (PE.q (pe_anyS (by decide +kernel)) (fun σ1 H1 Q1 hS q1 => rany hS q1)) pa_q0))))))
        (pss_cons (ps_for PassesOwn.never rfl (pi_list (pe_op op_cat (pv 7) (pe_lst (pa_q stS stR (PE.q (pe_callTy call_list_of (by rfl) m3 (by decide +kernel) (pa_cons (pv 5) pa_nil)) (fun σ1 H1 Q1 hS q1 => rlist hS q1)) (pa_q stS stR (PE.q (pe_op (op_catB (K := K) rfl) (pv 5) (pe_tup (pa_cons pe_non pa_nil))) (fun σ1 H1 Q1 hS q1 => rnone hS q1)) pa_q0))))) (pg_name (i := 9) sc_law.nd rfl (.inl rfl))
            (pss_one (ps_if (pt_not (pt_val (pe_callG G9 hgd hr (by rfl) g9 kp9 b9 (pa_cons (pv 4) (pa_cons (pv 3) (pa_cons (pv 6) (pa_cons (pv 9) pa_nil))))))) (pss_one (ps_ret pe_bl)) pss_nil)))
        (pss_cons (ps_set (i := 7) sc_law.nd rfl (.inl rfl) (pe_op op_cat (pe_op op_cat (pe_call0 G7 hr (by rfl) g7 kp7 b7 .nil pass0) (pe_lc (own := [("_law_turn", 8)]) (g := gName 8) (tt := tYes) rfl sc_law.nd (pi_range1 (by rfl) m1 (pa_cons pe_int pa_nil)) (blkOk_by (N := ["_law_script", "_law_cell_here", "_law_pen_here", "_law_works_here", "_law_made_here", "_law_lap_here", "_law_worths_here", "_law_things", "_law_turn", "_law_thing"]) (sc := defScope s_law) (by decide +kernel))
            (fun _ _ _ _ _ => pg_name (i := 8) sc_law.nd rfl (Or.inl rfl)) (fun _ _ _ _ _ => pts_nil) (fun _ _ _ _ _ => (pe_call G8 hr (by rfl) g8 kp8 b8 .nil pass0 (pa_cons (pv 2) (pa_cons (pv 6) pa_nil)))))) (pe_lst (pa_q stS stR (PE.q (pe_op op_repS (pe_tup (pa_cons pe_int pa_nil)) (pe_callB (call_len_sK (K := K) rfl) (by rfl) m2 PySem.boot_len (pa_cons (pv 3) pa_nil))) (fun σ1 H1 Q1 hS q1 => rep1 (.int 0) (.int 0) (fun _ => .int 0) (smL_by (by decide +kernel)) hS q1)) (pa_q stS stR (PE.q (pe_op op_repS (pe_tup (pa_cons pe_int pa_nil)) (pe_callB (call_len_sK (K := K) rfl) (by rfl) m2 PySem.boot_len (pa_cons (pv 3) pa_nil))) (fun σ1 H1 Q1 hS q1 => rep1 (.int 20) (.int 20) (fun _ => .int 20) (smL_by (by decide +kernel)) hS q1)) pa_q0)))))
        (pss_cons (ps_set (i := 7) sc_law.nd rfl (.inl rfl) (pe_op op_cat (pv 7) (pe_lst (pa_q stS stR (PE.q (pe_op op_repS (pe_tup (pa_cons pe_int pa_nil)) (pe_callB (call_len_sK (K := K) rfl) (by rfl) m2 PySem.boot_len (pa_cons (pv 3) pa_nil))) (fun σ1 H1 Q1 hS q1 => rep1 (.int 21) (.int 21) (fun _ => .int 21) (smL_by (by decide +kernel)) hS q1)) (pa_q stS stR (PE.q (pe_op op_repS (pe_tup (pa_cons pe_int pa_nil)) (pe_op op_add (pe_callB (call_len_sK (K := K) rfl) (by rfl) m2 PySem.boot_len (pa_cons (pv 3) pa_nil)) pe_int)) (fun σ1 H1 Q1 hS q1 => rrepA hS q1)) (pa_q stS stR (PE.q (pe_op op_repS (pe_tup (pa_cons pe_int pa_nil)) (pe_op op_sub (pe_callB (call_len_sK (K := K) rfl) (by rfl) m2 PySem.boot_len (pa_cons (pv 3) pa_nil)) pe_int)) (fun σ1 H1 Q1 hS q1 => rrepB hS q1)) pa_q0))))))
        (pss_cons (ps_for PassesOwn.never rfl (pi_list (pe_op op_cat (pv 7) (pe_lst (pa_q stS stR (PE.q (pe_op op_repS (pe_tup (pa_cons pe_bl pa_nil)) (pe_callB (call_len_sK (K := K) rfl) (by rfl) m2 PySem.boot_len (pa_cons (pv 3) pa_nil))) (fun σ1 H1 Q1 hS q1 => rep1 (.bl true) (.bool true) (fun _ => .bl true) (smL_by (by decide +kernel)) hS q1)) pa_q0)))) (pg_name (i := 9) sc_law.nd rfl (.inl rfl))
            (pss_one (ps_if (pt_not (pt_val (pe_callG G10 hgd hr (by rfl) g10 kp10 b10 (pa_cons (pv 4) (pa_cons (pv 3) (pa_cons (pv 5) (pa_cons (pv 9) pa_nil))))))) (pss_one (ps_ret pe_bl)) pss_nil)))
        (pss_one (ps_for PassesOwn.never rfl (pi_list (pe_op op_cat (pe_op op_cat (pe_call0 G7 hr (by rfl) g7 kp7 b7 .nil pass0) (pe_call0 G11 hr (by rfl) g11 kp11 b11 .nil pass0)) (pe_lst (pa_cons (pv 3) (pa_cons (pe_lst (pa_cons (pv 4) pa_nil)) pa_nil))))) (pg_name (i := 9) sc_law.nd rfl (.inl rfl))
            (pss_one (ps_if (pt_not (pt_val (pe_callG G12 hgd hr (by rfl) g12 kp12 b12 (pa_cons (pv 9) pa_nil)))) (pss_one (ps_ret pe_bl)) pss_nil)))))))))))))
      (pss_one (ps_ret pe_bl)), ?_⟩
    refine ⟨.ref a, rfl, a, ns, 0, rfl, hS, fun r => ?_⟩
    refine ⟨by show 1 ≤ sizeLine; omega, fun L1 n1 => ?_⟩
    have hSb : SqL K (L2.upd H L1 (.lst [V.int r])) a (ns.map V.int) := (same_new n1).seq hS
    refine ⟨.ref a, rfl, 1, rfl, 3, rfl, a, ns.map V.int, rfl, hSb, fun La n2 => ?_⟩
    obtain ⟨ys, ey, ly⟩ := cut_map ns (some 1) (some 3)
    rw [ey]
    have h1 : (L2.upd (L2.upd H L1 (.lst [V.int r])) La (.lst (ys.map V.int))) L1 = some (.lst [V.int r]) := by rw [upd_ne (ne_of_none upd_same n2)]; exact upd_same
    refine ⟨L1, La, [V.int r], ys.map V.int, rfl, rfl, h1, upd_same, by rw [List.length_map, List.length_singleton]; omega, fun L n => ?_⟩
    have eL : [V.int r] ++ ys.map V.int = (r :: ys).map V.int := rfl
    rw [eL]
    have hL0 : (L2.upd (L2.upd (L2.upd H L1 (.lst [V.int r])) La (.lst (ys.map V.int))) L (.lst ((r :: ys).map V.int))) L = some (.lst ((r :: ys).map V.int)) := upd_same
    have T0 := tabs_same (((same_new (o := .lst [V.int r]) n1).trans (same_new (o := .lst (ys.map V.int)) n2)).trans (same_new (o := .lst ((r :: ys).map V.int)) n)) hT
    generalize L2.upd (L2.upd (L2.upd H L1 (.lst [V.int r])) La (.lst (ys.map V.int))) L (.lst ((r :: ys).map V.int)) = H0 at hL0 T0 ⊢
    generalize r :: ys = cs at hL0 ⊢
    refine ⟨L, rfl, ⟨_, .of hL0⟩, ?_⟩
    refine for_list (xs := cs.map V.int) (fun i σ H' => ∃ v1 v2 v3 v4 v5 v6 v7 v8 v9, σ = [some (.ref a), v1, v2, v3, v4, v5, v6, v7, v8, v9] ∧ H' L = some (.lst (cs.map V.int)) ∧ LamX.Tabs T H')
      ⟨_, _, _, _, _, _, _, _, _, rfl, hL0, T0⟩ (fun i σ H' _ h => ?_) ?_ ?_
    · obtain ⟨_, _, _, _, _, _, _, _, _, _, h, _⟩ := h
      exact .of h
    · rintro i x0 σ H1 hx ⟨v1, v2, v3, v4, v5, v6, v7, v8, v9, rfl, hL1, T1⟩
      rw [List.getElem?_map] at hx
      obtain ⟨z, hz, rfl⟩ := Option.map_eq_some_iff.mp hx
      refine ⟨.int z, rfl, z, rfl, fun H2 p np s2 hp => ?_⟩
      have nLp : L ≠ p := ne_of_none hL1 np
      have hL2 := s2 _ _ hL1
      have T2 := tabs_same s2 T1
      refine ⟨.ref p, rfl, p, rfl, hp, fun H3 t ws p3 b3 nt hT3 gw hmost => ?_⟩
      obtain ⟨_, zs, ez, hZ, hTW⟩ := id hT3.toTup
      cases ez
      have lz := hTW.len
      rw [List.length_map] at lz
      have few := gw.few
      have least := gw.least
      refine ⟨.ref t, rfl, t, ws, rfl, hT3, gw, fun H4 x e4 nx hx4 => ?_⟩
      have p4 := p3.same e4
      refine ⟨.ref p, rfl, .ref t, rfl, t, zs, rfl, Same.tup e4 hZ, p, zs.length, 9, rfl, p4, by omega, by omega, by decide, by decide, fun H5 b lp p5 b5 nb hB hg hl => ?_⟩
      have hZ5 := p4.tup b5 (Same.tup e4 hZ)
      refine ⟨.ref p, rfl, .ref t, rfl, t, zs, rfl, hZ5, p, zs.length, rfl, p5, by omega, by omega, fun H6 c wt p6 b6 nc hC hw => ?_⟩
      rw [lz] at hg hw
      have LH6 : LawH K CL T L p t x b c cs ws zs lp wt H6 :=
        ⟨b6 _ _ nLp (b5 _ _ nLp (e4 _ _ (b3 _ _ nLp hL2))), p6, p5.tup b6 hZ5, (hx4.stay (.pen b5 p4)).stay (.pen b6 p5), p5.tup b6 hB, hC, tabs_but p5 b6 (tabs_but p4 b5 (tabs_same e4 (tabs_but hp b3 T2))), nLp, lz, few, least, hg, hl, hw⟩
      refine ⟨by show 3 ≤ sizeLine; omega, fun U nU => ⟨U, _, rfl, .of upd_same, rfl, _, _, rfl, _, _, rfl, _, _, rfl, rfl, ?_⟩⟩
      have LH7 := LH6.same (same_new (o := .tup [V.ref x, .ref b, .ref c]) nU)
      generalize upd H6 U (.tup [V.ref x, .ref b, .ref c]) = H7 at LH7 ⊢
      -- the things that may be laps
      refine ⟨rfl, fun H8 l8 x8 a1 a2 a3 a4 a5 => ?_⟩
      have A8 := LB.odds LH7.pen a1 a2 a3 a4 a5
      have LH8 := LH7.but A8.bt A8.pen
      refine ⟨9, rfl, by decide, by decide, fun D nD => ?_⟩
      have npD : D ≠ p := Ne.symm (LH8.pen.ne nD)
      refine lc_range (lo := 0) (n := 9) (fun i H' => PenAt H' p ∧ But p H8 H' ∧ ∃ acc, H' D = some (.lst acc) ∧ acc.length = i ∧ ∀ v ∈ acc, AnyS K (wo D (wo p H')) v)
        ⟨LH8.pen.new nD, .of (same_new nD), [], upd_same, rfl, fun v hv => nomatch hv⟩ (fun i H' hi h => ?_) (fun Hx h => ?_)
      · obtain ⟨p8, e8, acc, hac, hal, hall⟩ := h
        have LH8 := LH8.but e8 p8
        refine ⟨rfl, .ref p, rfl, .ref b, rfl, p, b, lp, rfl, p8, LH8.lb, (lapG hg few), hl, fun H9 v p9 e9 hv => ?_⟩
        have hD9 := e9 _ _ npD hac
        have up9 : Same (wo D (wo p H9)) (wo D (wo p (upd H9 D (.lst (acc ++ [v]))))) := fun b o h => by
          obtain ⟨h1, h2⟩ := wo_some h
          obtain ⟨h3, h4⟩ := wo_some h2
          rw [wo_ne h1, wo_ne h3, upd_ne h1]; exact h4
        refine ⟨acc, hD9, by omega, p9.upd (Ne.symm npD), fun b o n e => ?_, acc ++ [v], upd_same, by rw [List.length_append]; show acc.length + 1 = i + 1; omega, fun u hu => ?_⟩
        · rw [upd_ne (ne_of_none e nD)]; exact e9 _ _ n (e8 _ _ n e)
        · rcases List.mem_append.mp hu with hu | hu
          · exact ((hall u hu).same (wo_same (wo_but e9))).same up9
          · rw [List.mem_singleton.mp hu]
            obtain ⟨_, _, _, hp8, _⟩ := p8
            exact (hv.same (wl_wo2 hp8 hac)).same up9
      have A9 : LB K p H8 Hx 9 D := by
        obtain ⟨p8, e8, acc, hac, hal, hall⟩ := h
        exact ⟨e8, p8, nD, acc, hac, fun v hv => (hall v hv).same wo_sub, by omega⟩
      clear h
      refine LB.cat LH7.pen A8 A9 (by decide) fun H10 l10 A10 => ?_
      have LH10 := LH7.but A10.bt A10.pen
      refine ⟨⟨L, p, t, x, b, c, cs, ws, zs, lp, wt, _, _, _, _, _, rfl, LH10⟩, fun H11 us e11 hv hl11 => ⟨by omega, fun l11 nl11 => ?_⟩⟩
      refine LB.cat LH7.pen A10 (LB.fresh A10.pen e11 nl11 (fun v h => hv v h p rfl) (Nat.le_of_eq hl11)) (by decide) fun H12 l12 A12 => ?_
      have LH12 := LH7.but A12.bt A12.pen
      refine ⟨.ref l12, rfl, ⟨L, p, t, x, b, c, cs, ws, zs, lp, wt, _, _, _, _, _, rfl, LH12⟩, fun H13 us e13 hv hl13 => ⟨by omega, fun l13 nl13 => ?_⟩⟩
      refine LB.cat LH7.pen A12 (LB.fresh A12.pen e13 nl13 (fun v h => hv v h p rfl) (Nat.le_of_eq hl13)) (by decide) fun H14 l14 A14 => ?_
      have LH14 := LH7.but A14.bt A14.pen
      obtain ⟨xs, hxs, hall, hlen⟩ := A14.ex
      clear A14 A12 A10 A9 A8
      refine ⟨l14, rfl, ⟨_, .of hxs⟩, ?_⟩
      refine for_list (xs := xs) (fun i σ H' => ∃ v7 v8 v9, σ = [some (.ref a), some (.int z), some (.ref p), some (.ref t), some (.ref x), some (.ref b), some (.ref c), v7, v8, v9] ∧ LawH K CL T L p t x b c cs ws zs lp wt H' ∧ H' l14 = some (.lst xs) ∧ ∀ v ∈ xs, AnyS K (wo p H') v)
        ⟨_, _, _, rfl, LH14, hxs, hall⟩ (fun i σ H' _ h => ?_) ?_ ?_
      · obtain ⟨_, _, _, _, _, h, _⟩ := h
        exact .of h
      · rintro i y σ Ha hy ⟨v7, v8, v9, rfl, LHa, hla, hAa⟩
        obtain ⟨d, hd, hG, hb⟩ := (hAa y (List.mem_of_getElem? hy)).same wo_sub
        refine ⟨.ref x, rfl, .ref t, rfl, .ref c, rfl, y, rfl, x, t, c, zs, ws, wt, y, d, rfl, LHa.line, LHa.tz, lz, few, LHa.wc, hw, hd, hG, hb, LHa.tab, fun Hb xb Tb => ⟨true, rfl, iteF ?_⟩⟩
        exact ⟨_, _, _, rfl, LHa.ext xb Tb, xb _ _ hla (fun ps z => nomatch z), fun v hv => (hAa v hv).ext (ext_wo xb)⟩
      rintro σ H15 ⟨v7, v8, v9, rfl, LH15, _, _⟩
      -- the things that may be worths
      refine ⟨rfl, fun H8 l8 x8 a1 a2 a3 a4 a5 => ?_⟩
      have A8 := LB.odds LH15.pen a1 a2 a3 a4 a5
      have LH8 := LH15.but A8.bt A8.pen
      refine ⟨9, rfl, by decide, by decide, fun D nD => ?_⟩
      have npD : D ≠ p := Ne.symm (LH8.pen.ne nD)
      refine lc_range (lo := 0) (n := 9) (fun i H' => PenAt H' p ∧ But p H8 H' ∧ ∃ acc, H' D = some (.lst acc) ∧ acc.length = i ∧ ∀ v ∈ acc, AnyS K (wo D (wo p H')) v)
        ⟨LH8.pen.new nD, .of (same_new nD), [], upd_same, rfl, fun v hv => nomatch hv⟩ (fun i H' hi h => ?_) (fun Hx h => ?_)
      · obtain ⟨p8, e8, acc, hac, hal, hall⟩ := h
        have LH8 := LH8.but e8 p8
        refine ⟨rfl, .ref p, rfl, .ref c, rfl, p, c, wt, rfl, p8, LH8.wc, (fun y hy => by have := hw.items y hy; omega), (by have := hw.len; omega), fun H9 v p9 e9 hv => ?_⟩
        have hD9 := e9 _ _ npD hac
        have up9 : Same (wo D (wo p H9)) (wo D (wo p (upd H9 D (.lst (acc ++ [v]))))) := fun b o h => by
          obtain ⟨h1, h2⟩ := wo_some h
          obtain ⟨h3, h4⟩ := wo_some h2
          rw [wo_ne h1, wo_ne h3, upd_ne h1]; exact h4
        refine ⟨acc, hD9, by omega, p9.upd (Ne.symm npD), fun b o n e => ?_, acc ++ [v], upd_same, by rw [List.length_append]; show acc.length + 1 = i + 1; omega, fun u hu => ?_⟩
        · rw [upd_ne (ne_of_none e nD)]; exact e9 _ _ n (e8 _ _ n e)
        · rcases List.mem_append.mp hu with hu | hu
          · exact ((hall u hu).same (wo_same (wo_but e9))).same up9
          · rw [List.mem_singleton.mp hu]
            obtain ⟨_, _, _, hp8, _⟩ := p8
            exact (hv.same (wl_wo2 hp8 hac)).same up9
      have A9 : LB K p H8 Hx 9 D := by
        obtain ⟨p8, e8, acc, hac, hal, hall⟩ := h
        exact ⟨e8, p8, nD, acc, hac, fun v hv => (hall v hv).same wo_sub, by omega⟩
      clear h
      refine LB.cat LH15.pen A8 A9 (by decide) fun H10 l10 A10 => ?_
      have LH10 := LH15.but A10.bt A10.pen
      refine ⟨⟨L, p, t, x, b, c, cs, ws, zs, lp, wt, _, _, _, _, _, rfl, LH10⟩, fun H11 us e11 hv hl11 => ⟨by omega, fun l11 nl11 => ?_⟩⟩
      refine LB.cat LH15.pen A10 (LB.fresh A10.pen e11 nl11 (fun v h => hv v h p rfl) (Nat.le_of_eq hl11)) (by decide) fun H12 l12 A12 => ?_
      have LH12 := LH15.but A12.bt A12.pen
      refine ⟨.ref l12, rfl, ⟨L, p, t, x, b, c, cs, ws, zs, lp, wt, _, _, _, _, _, rfl, LH12⟩, fun H13 us e13 hv hl13 => ⟨by omega, fun l13 nl13 => ?_⟩⟩
      refine LB.cat LH15.pen A12 (LB.fresh A12.pen e13 nl13 (fun v h => hv v h p rfl) (Nat.le_of_eq hl13)) (by decide) fun H14 l14 A14 => ?_
      have LH14 := LH15.but A14.bt A14.pen
      refine ⟨.ref l14, rfl, ⟨L, p, t, x, b, c, cs, ws, zs, lp, wt, _, _, _, _, _, rfl, LH14⟩, fun H16 us e16 hv hl16 => ⟨by omega, fun l16 nl16 => ?_⟩⟩
      refine LB.cat LH15.pen A14 (LB.fresh A14.pen e16 nl16 (fun v h => hv v h p rfl) (Nat.le_of_eq hl16)) (by decide) fun H17 l17 A17 => ?_
      have LH17 := LH15.but A17.bt A17.pen
      obtain ⟨xs, hxs, hall, hlen⟩ := A17.ex
      clear A17 A14 A12 A10 A9 A8
      refine ⟨l17, rfl, ⟨_, .of hxs⟩, ?_⟩
      refine for_list (xs := xs) (fun i σ H' => ∃ v7 v8 v9, σ = [some (.ref a), some (.int z), some (.ref p), some (.ref t), some (.ref x), some (.ref b), some (.ref c), v7, v8, v9] ∧ LawH K CL T L p t x b c cs ws zs lp wt H' ∧ H' l17 = some (.lst xs) ∧ ∀ v ∈ xs, AnyS K (wo p H') v)
        ⟨_, _, _, rfl, LH17, hxs, hall⟩ (fun i σ H' _ h => ?_) ?_ ?_
      · obtain ⟨_, _, _, _, _, h, _⟩ := h
        exact .of h
      · rintro i y σ Ha hy ⟨v7, v8, v9, rfl, LHa, hla, hAa⟩
        obtain ⟨d, hd, hG, hb⟩ := (hAa y (List.mem_of_getElem? hy)).same wo_sub
        refine ⟨.ref x, rfl, .ref t, rfl, .ref b, rfl, y, rfl, x, t, b, zs, ws, lp, y, d, rfl, LHa.line, LHa.tz, lz, LHa.lb, hg, hd, hG, hb, LHa.tab, fun Hb xb Tb => ⟨true, rfl, iteF ?_⟩⟩
        exact ⟨_, _, _, rfl, LHa.ext xb Tb, xb _ _ hla (fun ps z => nomatch z), fun v hv => (hAa v hv).ext (ext_wo xb)⟩
      rintro σ H18 ⟨v7, v8, v9, rfl, LH18, _, _⟩
      -- what is no line
      refine ⟨rfl, fun H19 l19 x19 a1 a2 a3 a4 a5 => ⟨rfl, fun H20 l20 x20 c1 c2 c3 c4 c5 => ⟨l19, l20, x19, x20, rfl, rfl, c1 _ _ a3, c3, by omega, fun l21 n21 => ?_⟩⟩⟩
      have s21 := (a1.trans c1).trans (same_new (o := .lst (x19 ++ x20)) n21)
      have g19 : ∀ v ∈ x19, AnyV K (upd H20 l21 (.lst (x19 ++ x20))) v := fun v hv => (((a4 v hv).same nw_sub).any.same c1).same (same_new n21)
      have g20 : ∀ v ∈ x20, AnyV K (upd H20 l21 (.lst (x19 ++ x20))) v := fun v hv => ((c4 v hv).same nw_sub).same (same_new n21)
      have h21 : (upd H20 l21 (.lst (x19 ++ x20))) l21 = some (.lst (x19 ++ x20)) := upd_same
      have LH21 := LH18.same s21
      have l21len : (x19 ++ x20).length ≤ 200 := by rw [List.length_append]; omega
      generalize upd H20 l21 (.lst (x19 ++ x20)) = H21 at g19 g20 h21 LH21 ⊢
      refine ⟨.ref t, rfl, .ref x, rfl, by show 1 ≤ sizeLine; omega, fun m nm => ⟨by show 2 ≤ sizeLine; omega, fun o no => ?_⟩⟩
      have sm := same_new (o := .lst [V.ref x]) nm
      have so := same_new (o := .lst [V.ref t, .ref m]) no
      refine ⟨l21, o, _, _, rfl, rfl, so _ _ (sm _ _ h21), upd_same, by show (x19 ++ x20).length + 2 ≤ _; omega, fun l22 n22 => ?_⟩
      have s22 := (sm.trans so).trans (same_new (o := .lst ((x19 ++ x20) ++ [V.ref t, .ref m])) n22)
      have hm : (upd (upd (upd H21 m (.lst [V.ref x])) o (.lst [V.ref t, .ref m])) l22 (.lst ((x19 ++ x20) ++ [V.ref t, .ref m]))) m = some (.lst [V.ref x]) := same_new n22 _ _ (so _ _ upd_same)
      have h22 : (upd (upd (upd H21 m (.lst [V.ref x])) o (.lst [V.ref t, .ref m])) l22 (.lst ((x19 ++ x20) ++ [V.ref t, .ref m]))) l22 = some (.lst ((x19 ++ x20) ++ [V.ref t, .ref m])) := upd_same
      have LH22 := LH21.same s22
      have g22 : ∀ v ∈ (x19 ++ x20) ++ [V.ref t, .ref m], ∀ H1, LamX.ExtN (upd (upd (upd H21 m (.lst [V.ref x])) o (.lst [V.ref t, .ref m])) l22 (.lst ((x19 ++ x20) ++ [V.ref t, .ref m]))) H1 → PlainV K H1 v := fun v hv H1 e1 => by
        rcases List.mem_append.mp hv with hv | hv
        · rcases List.mem_append.mp hv with hv | hv
          · exact (((g19 v hv).same s22).ext e1).plain
          · exact (((g20 v hv).same s22).ext e1).plain
        · rcases List.mem_cons.mp hv with rfl | hv
          · exact ⟨.tuple [], tyT (ext_tup e1 LH22.tz)⟩
          · rw [List.mem_singleton.mp hv]
            exact ⟨.list [], tyL (.of (e1 _ _ hm fun ps z => nomatch z))⟩
      generalize upd (upd (upd H21 m (.lst [V.ref x])) o (.lst [V.ref t, .ref m])) l22 (.lst ((x19 ++ x20) ++ [V.ref t, .ref m])) = H22 at h22 LH22 g22 ⊢
      generalize (x19 ++ x20) ++ [V.ref t, .ref m] = xs at h22 g22 ⊢
      refine ⟨l22, rfl, ⟨_, .of h22⟩, ?_⟩
      refine for_list (xs := xs) (fun i σ H' => ∃ v7 v8 v9, σ = [some (.ref a), some (.int z), some (.ref p), some (.ref t), some (.ref x), some (.ref b), some (.ref c), v7, v8, v9] ∧ LawH K CL T L p t x b c cs ws zs lp wt H' ∧ H' l22 = some (.lst xs) ∧ ∀ v ∈ xs, ∀ H1, LamX.ExtN H' H1 → PlainV K H1 v)
        ⟨_, _, _, rfl, LH22, h22, g22⟩ (fun i σ H' _ h => ?_) ?_ ?_
      · obtain ⟨_, _, _, _, _, h, _⟩ := h
        exact .of h
      · rintro i y σ Ha hy ⟨v7, v8, v9, rfl, LHa, hla, hAa⟩
        refine ⟨y, rfl, y, rfl, hAa y (List.mem_of_getElem? hy), LHa.tab, fun Hb xb Tb => ⟨true, rfl, iteF ?_⟩⟩
        exact ⟨_, _, _, rfl, LHa.ext xb Tb, xb _ _ hla (fun ps z => nomatch z), fun v hv H1 e1 => hAa v hv H1 (xb.trans e1)⟩
      rintro σ H23 ⟨v7, v8, v9, rfl, LH23, _, _⟩
      exact ⟨_, _, _, _, _, _, _, _, _, rfl, LH23.lst, LH23.tab⟩
    · rintro σ H3 _
      exact q H3
end
end Sg
set_option Elab.async false
set_option linter.all false
set_option maxRecDepth 100000
set_option maxHeartbeats 4000000
namespace Sg
open PySem PySem.Spec PyProof.Rows L2 StX
theorem kit_tno {K : PySem.W.Frag} {T : String} {C : Addr} (i : PySem.W.isClsIn K C = true) (t : PySem.W.typeIn K (.ref C) = some (.type "type")) (s : PySem.W.subIn K (.type T) (.ref C) = some false) : PySem.W.kitOne K (.type T) (.ref C) = some false := by
  unfold PySem.W.kitOne
  rw [if_neg (by simp)]
  have i' : (PySem.W.clsIn K C).isSome = true := i
  show (if ((PySem.W.clsIn K C).isSome && PySem.W.typeIn K (.ref C) == some (.type "type")) = true then PySem.W.subIn K (.type T) (.ref C) else none) = some false
  rw [i', t]
  exact s
def lamNs : List Str := ["_law_line_refused", "_law_lap_right", "_law_worths_right"]
def spT (cs : List (Addr × Addr)) (K : PySem.W.Frag) : Sp := spLaw K ((cs.zip lamNs).map fun q => (q.1.2, lamQ q.2))
theorem spT_end (cs : List (Addr × Addr)) (K : PySem.W.Frag) (H : Hp) (a : Addr) (ns : List Int) (hl : ns.length ≤ 63) (hO : ∀ p ∈ cs, H p.2 = some (.tbl #[])) (hS : SqL K H a (ns.map V.int)) : spT cs K [.ref a] H (fun v _ => v = .bl true) E0 :=
  ⟨a, ns, rfl, hS, hl, fun x hx => by
    obtain ⟨p, hp, rfl⟩ := List.mem_map.mp hx
    exact LamX.TabS.nil (hO p.1 (List.of_mem_zip hp).1), fun _ => rfl⟩
theorem all_mk {l : PySem.W.OpenLaw} {w : World} {q : Program} {K : PySem.W.Frag} {h : Heap} {mg : Str → Option Value} {fa fd0 fd1 fd2 fd3 fd4 fd5 fd6 fd7 fd8 fd9 fd10 fd11 fd12 fd13 fd14 fd15 fd16 fd17 fd18 fd19 fd20 fd21 fd22 fd23 fd24 fd25 fd26 fd27 fd28 fd29 fd30 fd31 fd32 fd33 fd34 fd35 fd36 fd37 fd38 fd39 fd40 fd41 C fm0 fm1 fm2 fm3 fm4 fm5 fm6 fm7 fm8 pp0 fp0 C0 C1 C2 C3 C4 C5 C6 C7 C8 C9 C10 C11 C12 C13 C14 C15 C16 C17 C18 C19 C20 C21 C22 C23 C24 C25 C26 C27 Gp cL0 PL0 cL1 PL1 cL2 PL2 : Addr} {tu_NOWHERE tu_STATIONS tu_MOST_ITEMS tu_MOST_WORKS tu_NOTHING tu_MOST_WORTH : Tok} {rsp0 : List Value} {fo ro : Option Value} {odd0 and0 odd1 and1 odd2 and2 odd3 and3 odd4 and4 odd5 and5 odd6 and6 odd7 and7 odd8 and8 odd9 and9 odd10 and10 odd11 and11 odd12 and12 odd13 and13 odd14 and14 odd15 and15 odd16 and16 odd17 and17 odd18 and18 odd19 and19 odd20 and20 odd21 and21 odd22 and22 odd23 and23 odd24 and24 odd25 and25 odd26 and26 odd27 and27 odd28 and28 odd29 and29 odd30 and30 odd31 and31 odd32 and32 odd33 and33 odd34 and34 odd35 and35 odd36 and36 odd37 and37 odd38 and38 odd39 and39 odd40 and40 odd41 and41 odm0 anm0 odm1 anm1 odm2 anm2 odm3 anm3 odm4 anm4 odm5 anm5 odm6 anm6 odm7 anm7 odm8 anm8 odp0 anp0 : Option Addr} {sld0 sld1 sld2 sld3 sld4 sld5 sld6 sld7 sld8 sld9 sld10 sld11 sld12 sld13 sld14 sld15 sld16 sld17 sld18 sld19 sld20 sld21 sld22 sld23 sld24 sld25 sld26 sld27 sld28 sld29 sld30 sld31 sld32 sld33 sld34 sld35 sld36 sld37 sld38 sld39 sld40 sld41 slm0 slm1 slm2 slm3 slm4 slm5 slm6 slm7 slm8 slp0 : Array (Option Value)} {ocd0 kVd0 dcd0 pmd0 cdd0 ctd0 ocd1 kVd1 dcd1 pmd1 cdd1 ctd1 ocd2 kVd2 dcd2 pmd2 cdd2 ctd2 ocd3 kVd3 dcd3 pmd3 cdd3 ctd3 ocd4 kVd4 dcd4 pmd4 cdd4 ctd4 ocd5 kVd5 dcd5 pmd5 cdd5 ctd5 ocd6 kVd6 dcd6 pmd6 cdd6 ctd6 ocd7 kVd7 dcd7 pmd7 cdd7 ctd7 ocd8 kVd8 dcd8 pmd8 cdd8 ctd8 ocd9 kVd9 dcd9 pmd9 cdd9 ctd9 ocd10 kVd10 dcd10 pmd10 cdd10 ctd10 ocd11 kVd11 dcd11 pmd11 cdd11 ctd11 ocd12 kVd12 dcd12 pmd12 cdd12 ctd12 ocd13 kVd13 dcd13 pmd13 cdd13 ctd13 ocd14 kVd14 dcd14 pmd14 cdd14 ctd14 ocd15 kVd15 dcd15 pmd15 cdd15 ctd15 ocd16 kVd16 dcd16 pmd16 cdd16 ctd16 ocd17 kVd17 dcd17 pmd17 cdd17 ctd17 ocd18 kVd18 dcd18 pmd18 cdd18 ctd18 ocd19 kVd19 dcd19 pmd19 cdd19 ctd19 ocd20 kVd20 dcd20 pmd20 cdd20 ctd20 ocd21 kVd21 dcd21 pmd21 cdd21 ctd21 ocd22 kVd22 dcd22 pmd22 cdd22 ctd22 ocd23 kVd23 dcd23 pmd23 cdd23 ctd23 ocd24 kVd24 dcd24 pmd24 cdd24 ctd24 ocd25 kVd25 dcd25 pmd25 cdd25 ctd25 ocd26 kVd26 dcd26 pmd26 cdd26 ctd26 ocd27 kVd27 dcd27 pmd27 cdd27 ctd27 ocd28 kVd28 dcd28 pmd28 cdd28 ctd28 ocd29 kVd29 dcd29 pmd29 cdd29 ctd29 ocd30 kVd30 dcd30 pmd30 cdd30 ctd30 ocd31 kVd31 dcd31 pmd31 cdd31 ctd31 ocd32 kVd32 dcd32 pmd32 cdd32 ctd32 ocd33 kVd33 dcd33 pmd33 cdd33 ctd33 ocd34 kVd34 dcd34 pmd34 cdd34 ctd34 ocd35 kVd35 dcd35 pmd35 cdd35 ctd35 ocd36 kVd36 dcd36 pmd36 cdd36 ctd36 ocd37 kVd37 dcd37 pmd37 cdd37 ctd37 ocd38 kVd38 dcd38 pmd38 cdd38 ctd38 ocd39 kVd39 dcd39 pmd39 cdd39 ctd39 ocd40 kVd40 dcd40 pmd40 cdd40 ctd40 ocd41 kVd41 dcd41 pmd41 cdd41 ctd41 ocm0 kVm0 dcm0 pmm0 cdm0 ctm0 ocm1 kVm1 dcm1 pmm1 cdm1 ctm1 ocm2 kVm2 dcm2 pmm2 cdm2 ctm2 ocm3 kVm3 dcm3 pmm3 cdm3 ctm3 ocm4 kVm4 dcm4 pmm4 cdm4 ctm4 ocm5 kVm5 dcm5 pmm5 cdm5 ctm5 ocm6 kVm6 dcm6 pmm6 cdm6 ctm6 ocm7 kVm7 dcm7 pmm7 cdm7 ctm7 ocm8 kVm8 dcm8 pmm8 cdm8 ctm8 ocp0 kVp0 dcp0 pmp0 cdp0 ctp0 : Value} {ocL0 : Value} {odL0 : Option Addr} {vsL0 : Array Value} {slL0 : Array (Option Value)} {ocL1 : Value} {odL1 : Option Addr} {vsL1 : Array Value} {slL1 : Array (Option Value)} {ocL2 : Value} {odL2 : Option Addr} {vsL2 : Array Value} {slL2 : Array (Option Value)} (X : K.In h) (G : h.Ns mainGlobals mg) (hfa : mg "law" = some (.ref fa))
    (ad0 : PySem.W.nsIn K mainGlobals "is_int" = some (some (.ref fd0)))
    (ld0 : K.lookup fd0 = some ⟨ocd0, odd0, .func (PySem.W.fnOf "is_int" "is_int" (defArgs s_is_int) (defBody s_is_int) (defScope s_is_int) .none kVd0 dcd0 pmd0 and0 cdd0 ctd0), sld0⟩)
    (cd0 : PySem.W.codeIn K cdd0 "is_int" = true)
    (kd0 : PySem.W.keepIn K (.ref fd0) = true)
    (ad1 : PySem.W.nsIn K mainGlobals "is_between" = some (some (.ref fd1)))
    (ld1 : K.lookup fd1 = some ⟨ocd1, odd1, .func (PySem.W.fnOf "is_between" "is_between" (defArgs s_is_between) (defBody s_is_between) (defScope s_is_between) .none kVd1 dcd1 pmd1 and1 cdd1 ctd1), sld1⟩)
    (cd1 : PySem.W.codeIn K cdd1 "is_between" = true)
    (kd1 : PySem.W.keepIn K (.ref fd1) = true)
    (ad2 : PySem.W.nsIn K mainGlobals "fraction" = some (some (.ref fd2)))
    (ld2 : K.lookup fd2 = some ⟨ocd2, odd2, .func (PySem.W.fnOf "fraction" "fraction" (defArgs s_fraction) (defBody s_fraction) (defScope s_fraction) .none kVd2 dcd2 pmd2 and2 cdd2 ctd2), sld2⟩)
    (cd2 : PySem.W.codeIn K cdd2 "fraction" = true)
    (kd2 : PySem.W.keepIn K (.ref fd2) = true)
    (ad3 : PySem.W.nsIn K mainGlobals "is_work" = some (some (.ref fd3)))
    (ld3 : K.lookup fd3 = some ⟨ocd3, odd3, .func (PySem.W.fnOf "is_work" "is_work" (defArgs s_is_work) (defBody s_is_work) (defScope s_is_work) .none kVd3 dcd3 pmd3 and3 cdd3 ctd3), sld3⟩)
    (cd3 : PySem.W.codeIn K cdd3 "is_work" = true)
    (kd3 : PySem.W.keepIn K (.ref fd3) = true)
    (ad4 : PySem.W.nsIn K mainGlobals "bars" = some (some (.ref fd4)))
    (ld4 : K.lookup fd4 = some ⟨ocd4, odd4, .func (PySem.W.fnOf "bars" "bars" (defArgs s_bars) (defBody s_bars) (defScope s_bars) .none kVd4 dcd4 pmd4 and4 cdd4 ctd4), sld4⟩)
    (cd4 : PySem.W.codeIn K cdd4 "bars" = true)
    (kd4 : PySem.W.keepIn K (.ref fd4) = true)
    (ad5 : PySem.W.nsIn K mainGlobals "require_work" = some (some (.ref fd5)))
    (ld5 : K.lookup fd5 = some ⟨ocd5, odd5, .func (PySem.W.fnOf "require_work" "require_work" (defArgs s_require_work) (defBody s_require_work) (defScope s_require_work) .none kVd5 dcd5 pmd5 and5 cdd5 ctd5), sld5⟩)
    (cd5 : PySem.W.codeIn K cdd5 "require_work" = true)
    (kd5 : PySem.W.keepIn K (.ref fd5) = true)
    (ad6 : PySem.W.nsIn K mainGlobals "_clashes_behind" = some (some (.ref fd6)))
    (ld6 : K.lookup fd6 = some ⟨ocd6, odd6, .func (PySem.W.fnOf "_clashes_behind" "_clashes_behind" (defArgs s_clashes_behind) (defBody s_clashes_behind) (defScope s_clashes_behind) .none kVd6 dcd6 pmd6 and6 cdd6 ctd6), sld6⟩)
    (cd6 : PySem.W.codeIn K cdd6 "_clashes_behind" = true)
    (kd6 : PySem.W.keepIn K (.ref fd6) = true)
    (ad7 : PySem.W.nsIn K mainGlobals "is_kind" = some (some (.ref fd7)))
    (ld7 : K.lookup fd7 = some ⟨ocd7, odd7, .func (PySem.W.fnOf "is_kind" "is_kind" (defArgs s_is_kind) (defBody s_is_kind) (defScope s_is_kind) .none kVd7 dcd7 pmd7 and7 cdd7 ctd7), sld7⟩)
    (cd7 : PySem.W.codeIn K cdd7 "is_kind" = true)
    (kd7 : PySem.W.keepIn K (.ref fd7) = true)
    (ad8 : PySem.W.nsIn K mainGlobals "require_kind" = some (some (.ref fd8)))
    (ld8 : K.lookup fd8 = some ⟨ocd8, odd8, .func (PySem.W.fnOf "require_kind" "require_kind" (defArgs s_require_kind) (defBody s_require_kind) (defScope s_require_kind) .none kVd8 dcd8 pmd8 and8 cdd8 ctd8), sld8⟩)
    (cd8 : PySem.W.codeIn K cdd8 "require_kind" = true)
    (kd8 : PySem.W.keepIn K (.ref fd8) = true)
    (ad9 : PySem.W.nsIn K mainGlobals "_bars_of_all" = some (some (.ref fd9)))
    (ld9 : K.lookup fd9 = some ⟨ocd9, odd9, .func (PySem.W.fnOf "_bars_of_all" "_bars_of_all" (defArgs s_bars_of_all) (defBody s_bars_of_all) (defScope s_bars_of_all) .none kVd9 dcd9 pmd9 and9 cdd9 ctd9), sld9⟩)
    (cd9 : PySem.W.codeIn K cdd9 "_bars_of_all" = true)
    (kd9 : PySem.W.keepIn K (.ref fd9) = true)
    (ad10 : PySem.W.nsIn K mainGlobals "require_line" = some (some (.ref fd10)))
    (ld10 : K.lookup fd10 = some ⟨ocd10, odd10, .func (PySem.W.fnOf "require_line" "require_line" (defArgs s_require_line) (defBody s_require_line) (defScope s_require_line) .none kVd10 dcd10 pmd10 and10 cdd10 ctd10), sld10⟩)
    (cd10 : PySem.W.codeIn K cdd10 "require_line" = true)
    (kd10 : PySem.W.keepIn K (.ref fd10) = true)
    (ad11 : PySem.W.nsIn K mainGlobals "fits" = some (some (.ref fd11)))
    (ld11 : K.lookup fd11 = some ⟨ocd11, odd11, .func (PySem.W.fnOf "fits" "fits" (defArgs s_fits) (defBody s_fits) (defScope s_fits) .none kVd11 dcd11 pmd11 and11 cdd11 ctd11), sld11⟩)
    (cd11 : PySem.W.codeIn K cdd11 "fits" = true)
    (kd11 : PySem.W.keepIn K (.ref fd11) = true)
    (ad12 : PySem.W.nsIn K mainGlobals "mean" = some (some (.ref fd12)))
    (ld12 : K.lookup fd12 = some ⟨ocd12, odd12, .func (PySem.W.fnOf "mean" "mean" (defArgs s_mean) (defBody s_mean) (defScope s_mean) .none kVd12 dcd12 pmd12 and12 cdd12 ctd12), sld12⟩)
    (cd12 : PySem.W.codeIn K cdd12 "mean" = true)
    (kd12 : PySem.W.keepIn K (.ref fd12) = true)
    (ad13 : PySem.W.nsIn K mainGlobals "is_lap" = some (some (.ref fd13)))
    (ld13 : K.lookup fd13 = some ⟨ocd13, odd13, .func (PySem.W.fnOf "is_lap" "is_lap" (defArgs s_is_lap) (defBody s_is_lap) (defScope s_is_lap) .none kVd13 dcd13 pmd13 and13 cdd13 ctd13), sld13⟩)
    (cd13 : PySem.W.codeIn K cdd13 "is_lap" = true)
    (kd13 : PySem.W.keepIn K (.ref fd13) = true)
    (ad14 : PySem.W.nsIn K mainGlobals "worth_of" = some (some (.ref fd14)))
    (ld14 : K.lookup fd14 = some ⟨ocd14, odd14, .func (PySem.W.fnOf "worth_of" "worth_of" (defArgs s_worth_of) (defBody s_worth_of) (defScope s_worth_of) .none kVd14 dcd14 pmd14 and14 cdd14 ctd14), sld14⟩)
    (cd14 : PySem.W.codeIn K cdd14 "worth_of" = true)
    (kd14 : PySem.W.keepIn K (.ref fd14) = true)
    (ad15 : PySem.W.nsIn K mainGlobals "require_lap" = some (some (.ref fd15)))
    (ld15 : K.lookup fd15 = some ⟨ocd15, odd15, .func (PySem.W.fnOf "require_lap" "require_lap" (defArgs s_require_lap) (defBody s_require_lap) (defScope s_require_lap) .none kVd15 dcd15 pmd15 and15 cdd15 ctd15), sld15⟩)
    (cd15 : PySem.W.codeIn K cdd15 "require_lap" = true)
    (kd15 : PySem.W.keepIn K (.ref fd15) = true)
    (ad16 : PySem.W.nsIn K mainGlobals "require_worths" = some (some (.ref fd16)))
    (ld16 : K.lookup fd16 = some ⟨ocd16, odd16, .func (PySem.W.fnOf "require_worths" "require_worths" (defArgs s_require_worths) (defBody s_require_worths) (defScope s_require_worths) .none kVd16 dcd16 pmd16 and16 cdd16 ctd16), sld16⟩)
    (cd16 : PySem.W.codeIn K cdd16 "require_worths" = true)
    (kd16 : PySem.W.keepIn K (.ref fd16) = true)
    (ad17 : PySem.W.nsIn K mainGlobals "_is_worths" = some (some (.ref fd17)))
    (ld17 : K.lookup fd17 = some ⟨ocd17, odd17, .func (PySem.W.fnOf "_is_worths" "_is_worths" (defArgs s_is_worths) (defBody s_is_worths) (defScope s_is_worths) .none kVd17 dcd17 pmd17 and17 cdd17 ctd17), sld17⟩)
    (cd17 : PySem.W.codeIn K cdd17 "_is_worths" = true)
    (kd17 : PySem.W.keepIn K (.ref fd17) = true)
    (ad18 : PySem.W.nsIn K mainGlobals "_clashes" = some (some (.ref fd18)))
    (ld18 : K.lookup fd18 = some ⟨ocd18, odd18, .func (PySem.W.fnOf "_clashes" "_clashes" (defArgs s_clashes) (defBody s_clashes) (defScope s_clashes) .none kVd18 dcd18 pmd18 and18 cdd18 ctd18), sld18⟩)
    (cd18 : PySem.W.codeIn K cdd18 "_clashes" = true)
    (kd18 : PySem.W.keepIn K (.ref fd18) = true)
    (ad19 : PySem.W.nsIn K mainGlobals "_law_cell" = some (some (.ref fd19)))
    (ld19 : K.lookup fd19 = some ⟨ocd19, odd19, .func (PySem.W.fnOf "_law_cell" "_law_cell" (defArgs s_l_cell) (defBody s_l_cell) (defScope s_l_cell) .none kVd19 dcd19 pmd19 and19 cdd19 ctd19), sld19⟩)
    (cd19 : PySem.W.codeIn K cdd19 "_law_cell" = true)
    (kd19 : PySem.W.keepIn K (.ref fd19) = true)
    (ad20 : PySem.W.nsIn K mainGlobals "_law_pen" = some (some (.ref fd20)))
    (ld20 : K.lookup fd20 = some ⟨ocd20, odd20, .func (PySem.W.fnOf "_law_pen" "_law_pen" (defArgs s_l_pen) (defBody s_l_pen) (defScope s_l_pen) .none kVd20 dcd20 pmd20 and20 cdd20 ctd20), sld20⟩)
    (cd20 : PySem.W.codeIn K cdd20 "_law_pen" = true)
    (kd20 : PySem.W.keepIn K (.ref fd20) = true)
    (ad21 : PySem.W.nsIn K mainGlobals "_law_draw" = some (some (.ref fd21)))
    (ld21 : K.lookup fd21 = some ⟨ocd21, odd21, .func (PySem.W.fnOf "_law_draw" "_law_draw" (defArgs s_l_draw) (defBody s_l_draw) (defScope s_l_draw) .none kVd21 dcd21 pmd21 and21 cdd21 ctd21), sld21⟩)
    (cd21 : PySem.W.codeIn K cdd21 "_law_draw" = true)
    (kd21 : PySem.W.keepIn K (.ref fd21) = true)
    (ad22 : PySem.W.nsIn K mainGlobals "_law_pick" = some (some (.ref fd22)))
    (ld22 : K.lookup fd22 = some ⟨ocd22, odd22, .func (PySem.W.fnOf "_law_pick" "_law_pick" (defArgs s_l_pick) (defBody s_l_pick) (defScope s_l_pick) .none kVd22 dcd22 pmd22 and22 cdd22 ctd22), sld22⟩)
    (cd22 : PySem.W.codeIn K cdd22 "_law_pick" = true)
    (kd22 : PySem.W.keepIn K (.ref fd22) = true)
    (ad23 : PySem.W.nsIn K mainGlobals "_law_is_whole" = some (some (.ref fd23)))
    (ld23 : K.lookup fd23 = some ⟨ocd23, odd23, .func (PySem.W.fnOf "_law_is_whole" "_law_is_whole" (defArgs s_l_is_whole) (defBody s_l_is_whole) (defScope s_l_is_whole) .none kVd23 dcd23 pmd23 and23 cdd23 ctd23), sld23⟩)
    (cd23 : PySem.W.codeIn K cdd23 "_law_is_whole" = true)
    (kd23 : PySem.W.keepIn K (.ref fd23) = true)
    (ad24 : PySem.W.nsIn K mainGlobals "_law_work" = some (some (.ref fd24)))
    (ld24 : K.lookup fd24 = some ⟨ocd24, odd24, .func (PySem.W.fnOf "_law_work" "_law_work" (defArgs s_l_work) (defBody s_l_work) (defScope s_l_work) .none kVd24 dcd24 pmd24 and24 cdd24 ctd24), sld24⟩)
    (cd24 : PySem.W.codeIn K cdd24 "_law_work" = true)
    (kd24 : PySem.W.keepIn K (.ref fd24) = true)
    (ad25 : PySem.W.nsIn K mainGlobals "_law_made" = some (some (.ref fd25)))
    (ld25 : K.lookup fd25 = some ⟨ocd25, odd25, .func (PySem.W.fnOf "_law_made" "_law_made" (defArgs s_l_made) (defBody s_l_made) (defScope s_l_made) .none kVd25 dcd25 pmd25 and25 cdd25 ctd25), sld25⟩)
    (cd25 : PySem.W.codeIn K cdd25 "_law_made" = true)
    (kd25 : PySem.W.keepIn K (.ref fd25) = true)
    (ad26 : PySem.W.nsIn K mainGlobals "_law_works" = some (some (.ref fd26)))
    (ld26 : K.lookup fd26 = some ⟨ocd26, odd26, .func (PySem.W.fnOf "_law_works" "_law_works" (defArgs s_l_works) (defBody s_l_works) (defScope s_l_works) .none kVd26 dcd26 pmd26 and26 cdd26 ctd26), sld26⟩)
    (cd26 : PySem.W.codeIn K cdd26 "_law_works" = true)
    (kd26 : PySem.W.keepIn K (.ref fd26) = true)
    (ad27 : PySem.W.nsIn K mainGlobals "_law_low" = some (some (.ref fd27)))
    (ld27 : K.lookup fd27 = some ⟨ocd27, odd27, .func (PySem.W.fnOf "_law_low" "_law_low" (defArgs s_l_low) (defBody s_l_low) (defScope s_l_low) .none kVd27 dcd27 pmd27 and27 cdd27 ctd27), sld27⟩)
    (cd27 : PySem.W.codeIn K cdd27 "_law_low" = true)
    (kd27 : PySem.W.keepIn K (.ref fd27) = true)
    (ad28 : PySem.W.nsIn K mainGlobals "_law_mean" = some (some (.ref fd28)))
    (ld28 : K.lookup fd28 = some ⟨ocd28, odd28, .func (PySem.W.fnOf "_law_mean" "_law_mean" (defArgs s_l_mean) (defBody s_l_mean) (defScope s_l_mean) .none kVd28 dcd28 pmd28 and28 cdd28 ctd28), sld28⟩)
    (cd28 : PySem.W.codeIn K cdd28 "_law_mean" = true)
    (kd28 : PySem.W.keepIn K (.ref fd28) = true)
    (ad29 : PySem.W.nsIn K mainGlobals "_law_lap" = some (some (.ref fd29)))
    (ld29 : K.lookup fd29 = some ⟨ocd29, odd29, .func (PySem.W.fnOf "_law_lap" "_law_lap" (defArgs s_l_lap) (defBody s_l_lap) (defScope s_l_lap) .none kVd29 dcd29 pmd29 and29 cdd29 ctd29), sld29⟩)
    (cd29 : PySem.W.codeIn K cdd29 "_law_lap" = true)
    (kd29 : PySem.W.keepIn K (.ref fd29) = true)
    (ad30 : PySem.W.nsIn K mainGlobals "_law_worths" = some (some (.ref fd30)))
    (ld30 : K.lookup fd30 = some ⟨ocd30, odd30, .func (PySem.W.fnOf "_law_worths" "_law_worths" (defArgs s_l_worths) (defBody s_l_worths) (defScope s_l_worths) .none kVd30 dcd30 pmd30 and30 cdd30 ctd30), sld30⟩)
    (cd30 : PySem.W.codeIn K cdd30 "_law_worths" = true)
    (kd30 : PySem.W.keepIn K (.ref fd30) = true)
    (ad31 : PySem.W.nsIn K mainGlobals "_law_is_lap" = some (some (.ref fd31)))
    (ld31 : K.lookup fd31 = some ⟨ocd31, odd31, .func (PySem.W.fnOf "_law_is_lap" "_law_is_lap" (defArgs s_l_is_lap) (defBody s_l_is_lap) (defScope s_l_is_lap) .none kVd31 dcd31 pmd31 and31 cdd31 ctd31), sld31⟩)
    (cd31 : PySem.W.codeIn K cdd31 "_law_is_lap" = true)
    (kd31 : PySem.W.keepIn K (.ref fd31) = true)
    (ad32 : PySem.W.nsIn K mainGlobals "_law_odds" = some (some (.ref fd32)))
    (ld32 : K.lookup fd32 = some ⟨ocd32, odd32, .func (PySem.W.fnOf "_law_odds" "_law_odds" (defArgs s_l_odds) (defBody s_l_odds) (defScope s_l_odds) .none kVd32 dcd32 pmd32 and32 cdd32 ctd32), sld32⟩)
    (cd32 : PySem.W.codeIn K cdd32 "_law_odds" = true)
    (kd32 : PySem.W.keepIn K (.ref fd32) = true)
    (ad33 : PySem.W.nsIn K mainGlobals "_law_great" = some (some (.ref fd33)))
    (ld33 : K.lookup fd33 = some ⟨ocd33, odd33, .func (PySem.W.fnOf "_law_great" "_law_great" (defArgs s_l_great) (defBody s_l_great) (defScope s_l_great) .none kVd33 dcd33 pmd33 and33 cdd33 ctd33), sld33⟩)
    (cd33 : PySem.W.codeIn K cdd33 "_law_great" = true)
    (kd33 : PySem.W.keepIn K (.ref fd33) = true)
    (ad34 : PySem.W.nsIn K mainGlobals "_law_bend" = some (some (.ref fd34)))
    (ld34 : K.lookup fd34 = some ⟨ocd34, odd34, .func (PySem.W.fnOf "_law_bend" "_law_bend" (defArgs s_l_bend) (defBody s_l_bend) (defScope s_l_bend) .none kVd34 dcd34 pmd34 and34 cdd34 ctd34), sld34⟩)
    (cd34 : PySem.W.codeIn K cdd34 "_law_bend" = true)
    (kd34 : PySem.W.keepIn K (.ref fd34) = true)
    (ad35 : PySem.W.nsIn K mainGlobals "_law_kind" = some (some (.ref fd35)))
    (ld35 : K.lookup fd35 = some ⟨ocd35, odd35, .func (PySem.W.fnOf "_law_kind" "_law_kind" (defArgs s_l_kind) (defBody s_l_kind) (defScope s_l_kind) .none kVd35 dcd35 pmd35 and35 cdd35 ctd35), sld35⟩)
    (cd35 : PySem.W.codeIn K cdd35 "_law_kind" = true)
    (kd35 : PySem.W.keepIn K (.ref fd35) = true)
    (ad36 : PySem.W.nsIn K mainGlobals "_law_said" = some (some (.ref fd36)))
    (ld36 : K.lookup fd36 = some ⟨ocd36, odd36, .func (PySem.W.fnOf "_law_said" "_law_said" (defArgs s_l_said) (defBody s_l_said) (defScope s_l_said) .none kVd36 dcd36 pmd36 and36 cdd36 ctd36), sld36⟩)
    (cd36 : PySem.W.codeIn K cdd36 "_law_said" = true)
    (kd36 : PySem.W.keepIn K (.ref fd36) = true)
    (ad37 : PySem.W.nsIn K mainGlobals "_law_are_worths" = some (some (.ref fd37)))
    (ld37 : K.lookup fd37 = some ⟨ocd37, odd37, .func (PySem.W.fnOf "_law_are_worths" "_law_are_worths" (defArgs s_l_are_worths) (defBody s_l_are_worths) (defScope s_l_are_worths) .none kVd37 dcd37 pmd37 and37 cdd37 ctd37), sld37⟩)
    (cd37 : PySem.W.codeIn K cdd37 "_law_are_worths" = true)
    (kd37 : PySem.W.keepIn K (.ref fd37) = true)
    (ad38 : PySem.W.nsIn K mainGlobals "_law_line_refused" = some (some (.ref fd38)))
    (ld38 : K.lookup fd38 = some ⟨ocd38, odd38, .func (PySem.W.fnOf "_law_line_refused" "_law_line_refused" (defArgs s_l_line_refused) (defBody s_l_line_refused) (defScope s_l_line_refused) .none kVd38 dcd38 pmd38 and38 cdd38 ctd38), sld38⟩)
    (cd38 : PySem.W.codeIn K cdd38 "_law_line_refused" = true)
    (kd38 : PySem.W.keepIn K (.ref fd38) = true)
    (ad39 : PySem.W.nsIn K mainGlobals "_law_lap_right" = some (some (.ref fd39)))
    (ld39 : K.lookup fd39 = some ⟨ocd39, odd39, .func (PySem.W.fnOf "_law_lap_right" "_law_lap_right" (defArgs s_l_lap_right) (defBody s_l_lap_right) (defScope s_l_lap_right) .none kVd39 dcd39 pmd39 and39 cdd39 ctd39), sld39⟩)
    (cd39 : PySem.W.codeIn K cdd39 "_law_lap_right" = true)
    (kd39 : PySem.W.keepIn K (.ref fd39) = true)
    (ad40 : PySem.W.nsIn K mainGlobals "_law_worths_right" = some (some (.ref fd40)))
    (ld40 : K.lookup fd40 = some ⟨ocd40, odd40, .func (PySem.W.fnOf "_law_worths_right" "_law_worths_right" (defArgs s_l_worths_right) (defBody s_l_worths_right) (defScope s_l_worths_right) .none kVd40 dcd40 pmd40 and40 cdd40 ctd40), sld40⟩)
    (cd40 : PySem.W.codeIn K cdd40 "_law_worths_right" = true)
    (kd40 : PySem.W.keepIn K (.ref fd40) = true)
    (ad41 : PySem.W.nsIn K mainGlobals "law" = some (some (.ref fd41)))
    (ld41 : K.lookup fd41 = some ⟨ocd41, odd41, .func (PySem.W.fnOf "law" "law" (defArgs s_law) (defBody s_law) (defScope s_law) .none kVd41 dcd41 pmd41 and41 cdd41 ctd41), sld41⟩)
    (cd41 : PySem.W.codeIn K cdd41 "law" = true)
    (kd41 : PySem.W.keepIn K (.ref fd41) = true)
    (aC : PySem.W.nsIn K mainGlobals "Line" = some (some (.ref C)))
    (am0 : PySem.W.findIn K (.ref C) "__init__" = some (some (.ref fm0)))
    (im0 : PySem.W.isFn K (.ref fm0) = true)
    (lm0 : K.lookup fm0 = some ⟨ocm0, odm0, .func (PySem.W.fnOf "__init__" "Line.__init__" (defArgs s_Line_init) (defBody s_Line_init) (defScope s_Line_init) .none kVm0 dcm0 pmm0 anm0 cdm0 ctm0), slm0⟩)
    (cm0 : PySem.W.codeIn K cdm0 "Line.__init__" = true)
    (km0 : PySem.W.keepIn K (.ref fm0) = true)
    (am1 : PySem.W.findIn K (.ref C) "__len__" = some (some (.ref fm1)))
    (im1 : PySem.W.isFn K (.ref fm1) = true)
    (lm1 : K.lookup fm1 = some ⟨ocm1, odm1, .func (PySem.W.fnOf "__len__" "Line.__len__" (defArgs s_Line_len) (defBody s_Line_len) (defScope s_Line_len) .none kVm1 dcm1 pmm1 anm1 cdm1 ctm1), slm1⟩)
    (cm1 : PySem.W.codeIn K cdm1 "Line.__len__" = true)
    (km1 : PySem.W.keepIn K (.ref fm1) = true)
    (am2 : PySem.W.findIn K (.ref C) "__call__" = some (some (.ref fm2)))
    (im2 : PySem.W.isFn K (.ref fm2) = true)
    (lm2 : K.lookup fm2 = some ⟨ocm2, odm2, .func (PySem.W.fnOf "__call__" "Line.__call__" (defArgs s_Line_call) (defBody s_Line_call) (defScope s_Line_call) .none kVm2 dcm2 pmm2 anm2 cdm2 ctm2), slm2⟩)
    (cm2 : PySem.W.codeIn K cdm2 "Line.__call__" = true)
    (km2 : PySem.W.keepIn K (.ref fm2) = true)
    (am3 : PySem.W.findIn K (.ref C) "__add__" = some (some (.ref fm3)))
    (im3 : PySem.W.isFn K (.ref fm3) = true)
    (lm3 : K.lookup fm3 = some ⟨ocm3, odm3, .func (PySem.W.fnOf "__add__" "Line.__add__" (defArgs s_Line_add) (defBody s_Line_add) (defScope s_Line_add) .none kVm3 dcm3 pmm3 anm3 cdm3 ctm3), slm3⟩)
    (cm3 : PySem.W.codeIn K cdm3 "Line.__add__" = true)
    (km3 : PySem.W.keepIn K (.ref fm3) = true)
    (am4 : PySem.W.findIn K (.ref C) "__sub__" = some (some (.ref fm4)))
    (im4 : PySem.W.isFn K (.ref fm4) = true)
    (lm4 : K.lookup fm4 = some ⟨ocm4, odm4, .func (PySem.W.fnOf "__sub__" "Line.__sub__" (defArgs s_Line_sub) (defBody s_Line_sub) (defScope s_Line_sub) .none kVm4 dcm4 pmm4 anm4 cdm4 ctm4), slm4⟩)
    (cm4 : PySem.W.codeIn K cdm4 "Line.__sub__" = true)
    (km4 : PySem.W.keepIn K (.ref fm4) = true)
    (am5 : PySem.W.findIn K (.ref C) "__neg__" = some (some (.ref fm5)))
    (im5 : PySem.W.isFn K (.ref fm5) = true)
    (lm5 : K.lookup fm5 = some ⟨ocm5, odm5, .func (PySem.W.fnOf "__neg__" "Line.__neg__" (defArgs s_Line_neg) (defBody s_Line_neg) (defScope s_Line_neg) .none kVm5 dcm5 pmm5 anm5 cdm5 ctm5), slm5⟩)
    (cm5 : PySem.W.codeIn K cdm5 "Line.__neg__" = true)
    (km5 : PySem.W.keepIn K (.ref fm5) = true)
    (am6 : PySem.W.findIn K (.ref C) "__eq__" = some (some (.ref fm6)))
    (im6 : PySem.W.isFn K (.ref fm6) = true)
    (lm6 : K.lookup fm6 = some ⟨ocm6, odm6, .func (PySem.W.fnOf "__eq__" "Line.__eq__" (defArgs s_Line_eq) (defBody s_Line_eq) (defScope s_Line_eq) .none kVm6 dcm6 pmm6 anm6 cdm6 ctm6), slm6⟩)
    (cm6 : PySem.W.codeIn K cdm6 "Line.__eq__" = true)
    (km6 : PySem.W.keepIn K (.ref fm6) = true)
    (am7 : PySem.W.findIn K (.ref C) "__getitem__" = some (some (.ref fm7)))
    (im7 : PySem.W.isFn K (.ref fm7) = true)
    (lm7 : K.lookup fm7 = some ⟨ocm7, odm7, .func (PySem.W.fnOf "__getitem__" "Line.__getitem__" (defArgs s_Line_getitem) (defBody s_Line_getitem) (defScope s_Line_getitem) .none kVm7 dcm7 pmm7 anm7 cdm7 ctm7), slm7⟩)
    (cm7 : PySem.W.codeIn K cdm7 "Line.__getitem__" = true)
    (km7 : PySem.W.keepIn K (.ref fm7) = true)
    (am8 : PySem.W.findIn K (.ref C) "__repr__" = some (some (.ref fm8)))
    (im8 : PySem.W.isFn K (.ref fm8) = true)
    (lm8 : K.lookup fm8 = some ⟨ocm8, odm8, .func (PySem.W.fnOf "__repr__" "Line.__repr__" (defArgs s_Line_repr) (defBody s_Line_repr) (defScope s_Line_repr) .none kVm8 dcm8 pmm8 anm8 cdm8 ctm8), slm8⟩)
    (cm8 : PySem.W.codeIn K cdm8 "Line.__repr__" = true)
    (km8 : PySem.W.keepIn K (.ref fm8) = true)
    (ap0 : PySem.W.findIn K (.ref C) "works" = some (some (.ref pp0)))
    (gp0 : PySem.W.specialIn K (.ref pp0) "__get__" = some (some (.builtin "property.__get__")))
    (tp0 : PySem.W.takesIn K (.ref pp0) = some true)
    (rp0 : PySem.W.recIn K pp0 "property" = some (.ref fp0 :: rsp0))
    (lp0 : K.lookup fp0 = some ⟨ocp0, odp0, .func (PySem.W.fnOf "works" "Line.works" (defArgs s_Line_works) (defBody s_Line_works) (defScope s_Line_works) .none kVp0 dcp0 pmp0 anp0 cdp0 ctp0), slp0⟩)
    (cp0 : PySem.W.codeIn K cdp0 "Line.works" = true)
    (kp0 : PySem.W.keepIn K (.ref fp0) = true)
    (pg : PySem.W.plainGet K C Str.empty = true)
    (hd : PySem.W.hasDictIn K C = true)
    (po : PySem.W.plainOver K C = true)
    (sa : PySem.W.findIn K (.ref C) "__setattr__" = some (some (.builtin "object.__setattr__")))
    (mk : PySem.W.makesIn K C = true)
    (kc : PySem.W.keepIn K (.ref C) = true)
    (nW : PySem.W.findIn K (.ref C) "_works" = some none)
    (nB : PySem.W.findIn K (.ref C) "_bars" = some none)
    (nR : PySem.W.findIn K (.ref C) "_reach" = some none)
    (ha : PySem.W.findIn K (.ref C) "__class__" = some (some (.builtin "object.__class__")))
    (hn : PySem.W.specialIn K (.builtin "object.__class__") "__get__" = some (some (.builtin "getset_descriptor.__get__")))
    (ht : PySem.W.takesIn K (.builtin "object.__class__") = some true)
    (hm : PySem.W.mroIn K C (.type "object") = some true)
    (sf : PySem.W.selfFirst K C = true)
    (rs : PySem.W.findIn K (.ref C) "__rsub__" = some none)
    (is1 : PySem.W.findIn K (.type "int") "__sub__" = some fo)
    (ir1 : PySem.W.findIn K (.type "int") "__rsub__" = some ro)
    (nsub : PySem.W.subIn K (.type "int") (.ref C) = some false)
    (ne : PySem.W.findIn K (.ref C) "__ne__" = some (some (.builtin "object.__ne__")))
    (ob : PySem.W.subIn K (.ref C) (.type "object") = some true)
    (fi : PySem.W.fnIn K fm2 = true)
    (fg : PySem.W.fnIn K fm7 = true)
    (ug : PySem.W.nsIn K mainGlobals "gcd" = some (some (.builtin "math.gcd")))
    (iCl : PySem.W.isClsIn K C = true)
    (tCl : PySem.W.typeIn K (.ref C) = some (.type "type"))
    (ns_NoneType : PySem.W.subIn K (.type "NoneType") (.ref C) = some false)
    (ns_bool : PySem.W.subIn K (.type "bool") (.ref C) = some false)
    (ns_int : PySem.W.subIn K (.type "int") (.ref C) = some false)
    (ns_str : PySem.W.subIn K (.type "str") (.ref C) = some false)
    (ns_list : PySem.W.subIn K (.type "list") (.ref C) = some false)
    (ns_tuple : PySem.W.subIn K (.type "tuple") (.ref C) = some false)
    (ns_dict : PySem.W.subIn K (.type "dict") (.ref C) = some false)
    (z_isinstance : PySem.W.nsIn K mainGlobals "isinstance" = some none)
    (z_int : PySem.W.nsIn K mainGlobals "int" = some none)
    (z_bool : PySem.W.nsIn K mainGlobals "bool" = some none)
    (z_tuple : PySem.W.nsIn K mainGlobals "tuple" = some none)
    (z_len : PySem.W.nsIn K mainGlobals "len" = some none)
    (z_all : PySem.W.nsIn K mainGlobals "all" = some none)
    (z_any : PySem.W.nsIn K mainGlobals "any" = some none)
    (z_zip : PySem.W.nsIn K mainGlobals "zip" = some none)
    (z_range : PySem.W.nsIn K mainGlobals "range" = some none)
    (z_max : PySem.W.nsIn K mainGlobals "max" = some none)
    (z_sum : PySem.W.nsIn K mainGlobals "sum" = some none)
    (z_list : PySem.W.nsIn K mainGlobals "list" = some none)
    (z_str : PySem.W.nsIn K mainGlobals "str" = some none)
    (z_repr : PySem.W.nsIn K mainGlobals "repr" = some none)
    (z_ValueError : PySem.W.nsIn K mainGlobals "ValueError" = some none)
    (u_NOWHERE : PySem.W.nsIn K mainGlobals "NOWHERE" = some (some (.int (-1) tu_NOWHERE)))
    (u_STATIONS : PySem.W.nsIn K mainGlobals "STATIONS" = some (some (.int (10) tu_STATIONS)))
    (u_MOST_ITEMS : PySem.W.nsIn K mainGlobals "MOST_ITEMS" = some (some (.int (60) tu_MOST_ITEMS)))
    (u_MOST_WORKS : PySem.W.nsIn K mainGlobals "MOST_WORKS" = some (some (.int (3) tu_MOST_WORKS)))
    (u_NOTHING : PySem.W.nsIn K mainGlobals "NOTHING" = some (some (.int (-1) tu_NOTHING)))
    (u_MOST_WORTH : PySem.W.nsIn K mainGlobals "MOST_WORTH" = some (some (.int (20) tu_MOST_WORTH)))
    (aC0 : PySem.W.nsIn K mainGlobals "NoWork" = some (some (.ref C0)))
    (iC0 : PySem.W.isClsIn K C0 = true)
    (tC0 : PySem.W.typeIn K (.ref C0) = some (.type "type"))
    (aC1 : PySem.W.nsIn K mainGlobals "NoLine" = some (some (.ref C1)))
    (iC1 : PySem.W.isClsIn K C1 = true)
    (tC1 : PySem.W.typeIn K (.ref C1) = some (.type "type"))
    (aC2 : PySem.W.nsIn K mainGlobals "NoKind" = some (some (.ref C2)))
    (iC2 : PySem.W.isClsIn K C2 = true)
    (tC2 : PySem.W.typeIn K (.ref C2) = some (.type "type"))
    (aC3 : PySem.W.nsIn K mainGlobals "OnlyOne" = some (some (.ref C3)))
    (iC3 : PySem.W.isClsIn K C3 = true)
    (tC3 : PySem.W.typeIn K (.ref C3) = some (.type "type"))
    (aC4 : PySem.W.nsIn K mainGlobals "NoPlan" = some (some (.ref C4)))
    (iC4 : PySem.W.isClsIn K C4 = true)
    (tC4 : PySem.W.typeIn K (.ref C4) = some (.type "type"))
    (aC5 : PySem.W.nsIn K mainGlobals "NoKinds" = some (some (.ref C5)))
    (iC5 : PySem.W.isClsIn K C5 = true)
    (tC5 : PySem.W.typeIn K (.ref C5) = some (.type "type"))
    (aC6 : PySem.W.nsIn K mainGlobals "NoCounts" = some (some (.ref C6)))
    (iC6 : PySem.W.isClsIn K C6 = true)
    (tC6 : PySem.W.typeIn K (.ref C6) = some (.type "type"))
    (aC7 : PySem.W.nsIn K mainGlobals "NoState" = some (some (.ref C7)))
    (iC7 : PySem.W.isClsIn K C7 = true)
    (tC7 : PySem.W.typeIn K (.ref C7) = some (.type "type"))
    (aC8 : PySem.W.nsIn K mainGlobals "NoChoice" = some (some (.ref C8)))
    (iC8 : PySem.W.isClsIn K C8 = true)
    (tC8 : PySem.W.typeIn K (.ref C8) = some (.type "type"))
    (aC9 : PySem.W.nsIn K mainGlobals "NoTick" = some (some (.ref C9)))
    (iC9 : PySem.W.isClsIn K C9 = true)
    (tC9 : PySem.W.typeIn K (.ref C9) = some (.type "type"))
    (aC10 : PySem.W.nsIn K mainGlobals "NoLap" = some (some (.ref C10)))
    (iC10 : PySem.W.isClsIn K C10 = true)
    (tC10 : PySem.W.typeIn K (.ref C10) = some (.type "type"))
    (aC11 : PySem.W.nsIn K mainGlobals "NotFitting" = some (some (.ref C11)))
    (iC11 : PySem.W.isClsIn K C11 = true)
    (tC11 : PySem.W.typeIn K (.ref C11) = some (.type "type"))
    (aC12 : PySem.W.nsIn K mainGlobals "NoWorths" = some (some (.ref C12)))
    (iC12 : PySem.W.isClsIn K C12 = true)
    (tC12 : PySem.W.typeIn K (.ref C12) = some (.type "type"))
    (aC13 : PySem.W.nsIn K mainGlobals "NoWaits" = some (some (.ref C13)))
    (iC13 : PySem.W.isClsIn K C13 = true)
    (tC13 : PySem.W.typeIn K (.ref C13) = some (.type "type"))
    (aC14 : PySem.W.nsIn K mainGlobals "NoDistance" = some (some (.ref C14)))
    (iC14 : PySem.W.isClsIn K C14 = true)
    (tC14 : PySem.W.typeIn K (.ref C14) = some (.type "type"))
    (aC15 : PySem.W.nsIn K mainGlobals "NotTwo" = some (some (.ref C15)))
    (iC15 : PySem.W.isClsIn K C15 = true)
    (tC15 : PySem.W.typeIn K (.ref C15) = some (.type "type"))
    (aC16 : PySem.W.nsIn K mainGlobals "NoRate" = some (some (.ref C16)))
    (iC16 : PySem.W.isClsIn K C16 = true)
    (tC16 : PySem.W.typeIn K (.ref C16) = some (.type "type"))
    (aC17 : PySem.W.nsIn K mainGlobals "NoBars" = some (some (.ref C17)))
    (iC17 : PySem.W.isClsIn K C17 = true)
    (tC17 : PySem.W.typeIn K (.ref C17) = some (.type "type"))
    (aC18 : PySem.W.nsIn K mainGlobals "NoTicks" = some (some (.ref C18)))
    (iC18 : PySem.W.isClsIn K C18 = true)
    (tC18 : PySem.W.typeIn K (.ref C18) = some (.type "type"))
    (aC19 : PySem.W.nsIn K mainGlobals "NoStation" = some (some (.ref C19)))
    (iC19 : PySem.W.isClsIn K C19 = true)
    (tC19 : PySem.W.typeIn K (.ref C19) = some (.type "type"))
    (aC20 : PySem.W.nsIn K mainGlobals "NoPace" = some (some (.ref C20)))
    (iC20 : PySem.W.isClsIn K C20 = true)
    (tC20 : PySem.W.typeIn K (.ref C20) = some (.type "type"))
    (aC21 : PySem.W.nsIn K mainGlobals "NoText" = some (some (.ref C21)))
    (iC21 : PySem.W.isClsIn K C21 = true)
    (tC21 : PySem.W.typeIn K (.ref C21) = some (.type "type"))
    (aC22 : PySem.W.nsIn K mainGlobals "NothingDone" = some (some (.ref C22)))
    (iC22 : PySem.W.isClsIn K C22 = true)
    (tC22 : PySem.W.typeIn K (.ref C22) = some (.type "type"))
    (aC23 : PySem.W.nsIn K mainGlobals "TooMany" = some (some (.ref C23)))
    (iC23 : PySem.W.isClsIn K C23 = true)
    (tC23 : PySem.W.typeIn K (.ref C23) = some (.type "type"))
    (aC24 : PySem.W.nsIn K mainGlobals "TooFar" = some (some (.ref C24)))
    (iC24 : PySem.W.isClsIn K C24 = true)
    (tC24 : PySem.W.typeIn K (.ref C24) = some (.type "type"))
    (aC25 : PySem.W.nsIn K mainGlobals "TooLong" = some (some (.ref C25)))
    (iC25 : PySem.W.isClsIn K C25 = true)
    (tC25 : PySem.W.typeIn K (.ref C25) = some (.type "type"))
    (aC26 : PySem.W.nsIn K mainGlobals "Clash" = some (some (.ref C26)))
    (iC26 : PySem.W.isClsIn K C26 = true)
    (tC26 : PySem.W.typeIn K (.ref C26) = some (.type "type"))
    (aC27 : PySem.W.nsIn K mainGlobals "TooSoon" = some (some (.ref C27)))
    (iC27 : PySem.W.isClsIn K C27 = true)
    (tC27 : PySem.W.typeIn K (.ref C27) = some (.type "type"))
    (aGp : PySem.W.nsIn K mainGlobals "GapError" = some (some (.ref Gp)))
    (iGp : PySem.W.isClsIn K Gp = true)
    (tGp : PySem.W.typeIn K (.ref Gp) = some (.type "type"))
    (bGp : PySem.W.subIn K (.ref Gp) (.type "BaseException") = some true)
    (er_x1 : PySem.W.excIn K C1 [.type "ValueError", .type "Exception", .type "BaseException", .type "object"] "ValueError.__new__" = true)
    (er_k1 : PySem.W.keepIn K (.ref C1) = true)
    (er_b1 : PySem.W.subIn K (.ref C1) (.type "BaseException") = some true)
    (er_v1 : PySem.W.subIn K (.ref C1) (.type "ValueError") = some true)
    (er_g1 : PySem.W.subIn K (.ref C1) (.ref Gp) = some true)
    (er_s1 : PySem.W.subIn K (.ref C1) (.ref C1) = some true)
    (er_n1_0 : PySem.W.subIn K (.ref C1) (.ref C0) = some false)
    (er_n1_2 : PySem.W.subIn K (.ref C1) (.ref C2) = some false)
    (er_n1_3 : PySem.W.subIn K (.ref C1) (.ref C3) = some false)
    (er_n1_4 : PySem.W.subIn K (.ref C1) (.ref C4) = some false)
    (er_n1_5 : PySem.W.subIn K (.ref C1) (.ref C5) = some false)
    (er_n1_6 : PySem.W.subIn K (.ref C1) (.ref C6) = some false)
    (er_n1_7 : PySem.W.subIn K (.ref C1) (.ref C7) = some false)
    (er_n1_8 : PySem.W.subIn K (.ref C1) (.ref C8) = some false)
    (er_n1_9 : PySem.W.subIn K (.ref C1) (.ref C9) = some false)
    (er_n1_10 : PySem.W.subIn K (.ref C1) (.ref C10) = some false)
    (er_n1_11 : PySem.W.subIn K (.ref C1) (.ref C11) = some false)
    (er_n1_12 : PySem.W.subIn K (.ref C1) (.ref C12) = some false)
    (er_n1_13 : PySem.W.subIn K (.ref C1) (.ref C13) = some false)
    (er_n1_14 : PySem.W.subIn K (.ref C1) (.ref C14) = some false)
    (er_n1_15 : PySem.W.subIn K (.ref C1) (.ref C15) = some false)
    (er_n1_16 : PySem.W.subIn K (.ref C1) (.ref C16) = some false)
    (er_n1_17 : PySem.W.subIn K (.ref C1) (.ref C17) = some false)
    (er_n1_18 : PySem.W.subIn K (.ref C1) (.ref C18) = some false)
    (er_n1_19 : PySem.W.subIn K (.ref C1) (.ref C19) = some false)
    (er_n1_20 : PySem.W.subIn K (.ref C1) (.ref C20) = some false)
    (er_n1_21 : PySem.W.subIn K (.ref C1) (.ref C21) = some false)
    (er_n1_22 : PySem.W.subIn K (.ref C1) (.ref C22) = some false)
    (er_n1_23 : PySem.W.subIn K (.ref C1) (.ref C23) = some false)
    (er_n1_24 : PySem.W.subIn K (.ref C1) (.ref C24) = some false)
    (er_n1_25 : PySem.W.subIn K (.ref C1) (.ref C25) = some false)
    (er_n1_26 : PySem.W.subIn K (.ref C1) (.ref C26) = some false)
    (er_n1_27 : PySem.W.subIn K (.ref C1) (.ref C27) = some false)
    (er_hg1 : PySem.W.findIn K (.ref C1) "__getattribute__" = some (some (.builtin "BaseException.__getattribute__")))
    (er_hk1 : PySem.W.findIn K (.ref C1) "__getattr__" = some none)
    (er_hd1 : PySem.W.hasDictIn K C1 = true)
    (er_ha1 : PySem.W.findIn K (.ref C1) "__class__" = some (some (.builtin "object.__class__")))
    (er_hm1 : PySem.W.mroIn K C1 (.type "object") = some true)
    (er_x10 : PySem.W.excIn K C10 [.type "ValueError", .type "Exception", .type "BaseException", .type "object"] "ValueError.__new__" = true)
    (er_k10 : PySem.W.keepIn K (.ref C10) = true)
    (er_b10 : PySem.W.subIn K (.ref C10) (.type "BaseException") = some true)
    (er_v10 : PySem.W.subIn K (.ref C10) (.type "ValueError") = some true)
    (er_g10 : PySem.W.subIn K (.ref C10) (.ref Gp) = some true)
    (er_s10 : PySem.W.subIn K (.ref C10) (.ref C10) = some true)
    (er_n10_0 : PySem.W.subIn K (.ref C10) (.ref C0) = some false)
    (er_n10_1 : PySem.W.subIn K (.ref C10) (.ref C1) = some false)
    (er_n10_2 : PySem.W.subIn K (.ref C10) (.ref C2) = some false)
    (er_n10_3 : PySem.W.subIn K (.ref C10) (.ref C3) = some false)
    (er_n10_4 : PySem.W.subIn K (.ref C10) (.ref C4) = some false)
    (er_n10_5 : PySem.W.subIn K (.ref C10) (.ref C5) = some false)
    (er_n10_6 : PySem.W.subIn K (.ref C10) (.ref C6) = some false)
    (er_n10_7 : PySem.W.subIn K (.ref C10) (.ref C7) = some false)
    (er_n10_8 : PySem.W.subIn K (.ref C10) (.ref C8) = some false)
    (er_n10_9 : PySem.W.subIn K (.ref C10) (.ref C9) = some false)
    (er_n10_11 : PySem.W.subIn K (.ref C10) (.ref C11) = some false)
    (er_n10_12 : PySem.W.subIn K (.ref C10) (.ref C12) = some false)
    (er_n10_13 : PySem.W.subIn K (.ref C10) (.ref C13) = some false)
    (er_n10_14 : PySem.W.subIn K (.ref C10) (.ref C14) = some false)
    (er_n10_15 : PySem.W.subIn K (.ref C10) (.ref C15) = some false)
    (er_n10_16 : PySem.W.subIn K (.ref C10) (.ref C16) = some false)
    (er_n10_17 : PySem.W.subIn K (.ref C10) (.ref C17) = some false)
    (er_n10_18 : PySem.W.subIn K (.ref C10) (.ref C18) = some false)
    (er_n10_19 : PySem.W.subIn K (.ref C10) (.ref C19) = some false)
    (er_n10_20 : PySem.W.subIn K (.ref C10) (.ref C20) = some false)
    (er_n10_21 : PySem.W.subIn K (.ref C10) (.ref C21) = some false)
    (er_n10_22 : PySem.W.subIn K (.ref C10) (.ref C22) = some false)
    (er_n10_23 : PySem.W.subIn K (.ref C10) (.ref C23) = some false)
    (er_n10_24 : PySem.W.subIn K (.ref C10) (.ref C24) = some false)
    (er_n10_25 : PySem.W.subIn K (.ref C10) (.ref C25) = some false)
    (er_n10_26 : PySem.W.subIn K (.ref C10) (.ref C26) = some false)
    (er_n10_27 : PySem.W.subIn K (.ref C10) (.ref C27) = some false)
    (er_hg10 : PySem.W.findIn K (.ref C10) "__getattribute__" = some (some (.builtin "BaseException.__getattribute__")))
    (er_hk10 : PySem.W.findIn K (.ref C10) "__getattr__" = some none)
    (er_hd10 : PySem.W.hasDictIn K C10 = true)
    (er_ha10 : PySem.W.findIn K (.ref C10) "__class__" = some (some (.builtin "object.__class__")))
    (er_hm10 : PySem.W.mroIn K C10 (.type "object") = some true)
    (er_x12 : PySem.W.excIn K C12 [.type "ValueError", .type "Exception", .type "BaseException", .type "object"] "ValueError.__new__" = true)
    (er_k12 : PySem.W.keepIn K (.ref C12) = true)
    (er_b12 : PySem.W.subIn K (.ref C12) (.type "BaseException") = some true)
    (er_v12 : PySem.W.subIn K (.ref C12) (.type "ValueError") = some true)
    (er_g12 : PySem.W.subIn K (.ref C12) (.ref Gp) = some true)
    (er_s12 : PySem.W.subIn K (.ref C12) (.ref C12) = some true)
    (er_n12_0 : PySem.W.subIn K (.ref C12) (.ref C0) = some false)
    (er_n12_1 : PySem.W.subIn K (.ref C12) (.ref C1) = some false)
    (er_n12_2 : PySem.W.subIn K (.ref C12) (.ref C2) = some false)
    (er_n12_3 : PySem.W.subIn K (.ref C12) (.ref C3) = some false)
    (er_n12_4 : PySem.W.subIn K (.ref C12) (.ref C4) = some false)
    (er_n12_5 : PySem.W.subIn K (.ref C12) (.ref C5) = some false)
    (er_n12_6 : PySem.W.subIn K (.ref C12) (.ref C6) = some false)
    (er_n12_7 : PySem.W.subIn K (.ref C12) (.ref C7) = some false)
    (er_n12_8 : PySem.W.subIn K (.ref C12) (.ref C8) = some false)
    (er_n12_9 : PySem.W.subIn K (.ref C12) (.ref C9) = some false)
    (er_n12_10 : PySem.W.subIn K (.ref C12) (.ref C10) = some false)
    (er_n12_11 : PySem.W.subIn K (.ref C12) (.ref C11) = some false)
    (er_n12_13 : PySem.W.subIn K (.ref C12) (.ref C13) = some false)
    (er_n12_14 : PySem.W.subIn K (.ref C12) (.ref C14) = some false)
    (er_n12_15 : PySem.W.subIn K (.ref C12) (.ref C15) = some false)
    (er_n12_16 : PySem.W.subIn K (.ref C12) (.ref C16) = some false)
    (er_n12_17 : PySem.W.subIn K (.ref C12) (.ref C17) = some false)
    (er_n12_18 : PySem.W.subIn K (.ref C12) (.ref C18) = some false)
    (er_n12_19 : PySem.W.subIn K (.ref C12) (.ref C19) = some false)
    (er_n12_20 : PySem.W.subIn K (.ref C12) (.ref C20) = some false)
    (er_n12_21 : PySem.W.subIn K (.ref C12) (.ref C21) = some false)
    (er_n12_22 : PySem.W.subIn K (.ref C12) (.ref C22) = some false)
    (er_n12_23 : PySem.W.subIn K (.ref C12) (.ref C23) = some false)
    (er_n12_24 : PySem.W.subIn K (.ref C12) (.ref C24) = some false)
    (er_n12_25 : PySem.W.subIn K (.ref C12) (.ref C25) = some false)
    (er_n12_26 : PySem.W.subIn K (.ref C12) (.ref C26) = some false)
    (er_n12_27 : PySem.W.subIn K (.ref C12) (.ref C27) = some false)
    (er_hg12 : PySem.W.findIn K (.ref C12) "__getattribute__" = some (some (.builtin "BaseException.__getattribute__")))
    (er_hk12 : PySem.W.findIn K (.ref C12) "__getattr__" = some none)
    (er_hd12 : PySem.W.hasDictIn K C12 = true)
    (er_ha12 : PySem.W.findIn K (.ref C12) "__class__" = some (some (.builtin "object.__class__")))
    (er_hm12 : PySem.W.mroIn K C12 (.type "object") = some true)
    (hnX : PySem.W.specialIn K (.builtin "object.__class__") "__get__" = some (some (.builtin "getset_descriptor.__get__")))
    (htX : PySem.W.takesIn K (.builtin "object.__class__") = some true)
    (eL0 : cdd38 = .ref cL0)
    (lL0 : K.lookup cL0 = some ⟨ocL0, odL0, .fields vsL0, slL0⟩)
    (pL0 : (vsL0[11]? : Option Value) = some (.ref PL0))
    (tL0 : PySem.W.tabIn K "_law_line_refused" = some (cL0, PL0))
    (oL0 : K.lookup PL0 = none)
    (rL0 : ∃ d, (recsOf q).find? (fun e => e.name == ("_law_line_refused" : Str)) = some d)
    (eL1 : cdd39 = .ref cL1)
    (lL1 : K.lookup cL1 = some ⟨ocL1, odL1, .fields vsL1, slL1⟩)
    (pL1 : (vsL1[11]? : Option Value) = some (.ref PL1))
    (tL1 : PySem.W.tabIn K "_law_lap_right" = some (cL1, PL1))
    (oL1 : K.lookup PL1 = none)
    (rL1 : ∃ d, (recsOf q).find? (fun e => e.name == ("_law_lap_right" : Str)) = some d)
    (eL2 : cdd40 = .ref cL2)
    (lL2 : K.lookup cL2 = some ⟨ocL2, odL2, .fields vsL2, slL2⟩)
    (pL2 : (vsL2[11]? : Option Value) = some (.ref PL2))
    (tL2 : PySem.W.tabIn K "_law_worths_right" = some (cL2, PL2))
    (oL2 : K.lookup PL2 = none)
    (rL2 : ∃ d, (recsOf q).find? (fun e => e.name == ("_law_worths_right" : Str)) = some d)
    (dL01 : PL0 ≠ PL1)
    (dL02 : PL0 ≠ PL2)
    (dL12 : PL1 ≠ PL2) :
    ∃ (cs : List (Addr × Addr)) (fd : FuncData), (∀ p ∈ cs, ∃ y, LamDef q K y p.1 p.2) ∧ (∀ (s : Shared) (v : Value), BindsTo s fd ⟨[v], []⟩ [("_law_script", v)]) ∧ ∀ base : Heap, K.In base → base.Ns mainGlobals mg → (∀ p ∈ cs, LamX.TabB base mg p.1 p.2) → FnG l.prog w K mg base 21 fa fd ["_law_script"] (spT cs K) := by
  have e := hfa.symm.trans (PySem.W.mg_of X G ad41)
  cases e
  have y_isinstance := PySem.W.mg_none_of X G z_isinstance
  have y_int := PySem.W.mg_none_of X G z_int
  have y_bool := PySem.W.mg_none_of X G z_bool
  have y_tuple := PySem.W.mg_none_of X G z_tuple
  have y_len := PySem.W.mg_none_of X G z_len
  have y_all := PySem.W.mg_none_of X G z_all
  have y_any := PySem.W.mg_none_of X G z_any
  have y_zip := PySem.W.mg_none_of X G z_zip
  have y_range := PySem.W.mg_none_of X G z_range
  have y_max := PySem.W.mg_none_of X G z_max
  have y_sum := PySem.W.mg_none_of X G z_sum
  have y_list := PySem.W.mg_none_of X G z_list
  have y_str := PySem.W.mg_none_of X G z_str
  have y_repr := PySem.W.mg_none_of X G z_repr
  have y_ValueError := PySem.W.mg_none_of X G z_ValueError
  have Fd0 := fun_mk (st := s_is_int) ld0 cd0 kd0
  have bd0 := Fd0.binds (ps := ["thing"]) fun _ _ _ _ _ _ us hl => match us, hl with | [_], _ => rfl
  have vd0 := PySem.W.mg_of X G ad0
  have Fd1 := fun_mk (st := s_is_between) ld1 cd1 kd1
  have bd1 := Fd1.binds (ps := ["thing", "least", "most"]) fun _ _ _ _ _ _ us hl => match us, hl with | [_, _, _], _ => rfl
  have vd1 := PySem.W.mg_of X G ad1
  have Fd2 := fun_mk (st := s_fraction) ld2 cd2 kd2
  have bd2 := Fd2.binds (ps := ["top", "bottom"]) fun _ _ _ _ _ _ us hl => match us, hl with | [_, _], _ => rfl
  have vd2 := PySem.W.mg_of X G ad2
  have Fd3 := fun_mk (st := s_is_work) ld3 cd3 kd3
  have bd3 := Fd3.binds (ps := ["thing"]) fun _ _ _ _ _ _ us hl => match us, hl with | [_], _ => rfl
  have vd3 := PySem.W.mg_of X G ad3
  have Fd4 := fun_mk (st := s_bars) ld4 cd4 kd4
  have bd4 := Fd4.binds (ps := ["one", "other"]) fun _ _ _ _ _ _ us hl => match us, hl with | [_, _], _ => rfl
  have vd4 := PySem.W.mg_of X G ad4
  have Fd5 := fun_mk (st := s_require_work) ld5 cd5 kd5
  have bd5 := Fd5.binds (ps := ["thing"]) fun _ _ _ _ _ _ us hl => match us, hl with | [_], _ => rfl
  have vd5 := PySem.W.mg_of X G ad5
  have Fd6 := fun_mk (st := s_clashes_behind) ld6 cd6 kd6
  have bd6 := Fd6.binds (ps := ["one", "other", "distance"]) fun _ _ _ _ _ _ us hl => match us, hl with | [_, _, _], _ => rfl
  have vd6 := PySem.W.mg_of X G ad6
  have Fd7 := fun_mk (st := s_is_kind) ld7 cd7 kd7
  have bd7 := Fd7.binds (ps := ["line", "thing"]) fun _ _ _ _ _ _ us hl => match us, hl with | [_, _], _ => rfl
  have vd7 := PySem.W.mg_of X G ad7
  have Fd8 := fun_mk (st := s_require_kind) ld8 cd8 kd8
  have bd8 := Fd8.binds (ps := ["line", "thing"]) fun _ _ _ _ _ _ us hl => match us, hl with | [_, _], _ => rfl
  have vd8 := PySem.W.mg_of X G ad8
  have Fd9 := fun_mk (st := s_bars_of_all) ld9 cd9 kd9
  have bd9 := Fd9.binds (ps := ["works"]) fun _ _ _ _ _ _ us hl => match us, hl with | [_], _ => rfl
  have vd9 := PySem.W.mg_of X G ad9
  have Fd10 := fun_mk (st := s_require_line) ld10 cd10 kd10
  have bd10 := Fd10.binds (ps := ["thing"]) fun _ _ _ _ _ _ us hl => match us, hl with | [_], _ => rfl
  have vd10 := PySem.W.mg_of X G ad10
  have Fd11 := fun_mk (st := s_fits) ld11 cd11 kd11
  have bd11 := Fd11.binds (ps := ["line", "lap"]) fun _ _ _ _ _ _ us hl => match us, hl with | [_, _], _ => rfl
  have vd11 := PySem.W.mg_of X G ad11
  have Fd12 := fun_mk (st := s_mean) ld12 cd12 kd12
  have bd12 := Fd12.binds (ps := ["line", "lap", "worths"]) fun _ _ _ _ _ _ us hl => match us, hl with | [_, _, _], _ => rfl
  have vd12 := PySem.W.mg_of X G ad12
  have Fd13 := fun_mk (st := s_is_lap) ld13 cd13 kd13
  have bd13 := Fd13.binds (ps := ["line", "thing"]) fun _ _ _ _ _ _ us hl => match us, hl with | [_, _], _ => rfl
  have vd13 := PySem.W.mg_of X G ad13
  have Fd14 := fun_mk (st := s_worth_of) ld14 cd14 kd14
  have bd14 := Fd14.binds (ps := ["worths", "choice"]) fun _ _ _ _ _ _ us hl => match us, hl with | [_, _], _ => rfl
  have vd14 := PySem.W.mg_of X G ad14
  have Fd15 := fun_mk (st := s_require_lap) ld15 cd15 kd15
  have bd15 := Fd15.binds (ps := ["line", "thing"]) fun _ _ _ _ _ _ us hl => match us, hl with | [_, _], _ => rfl
  have vd15 := PySem.W.mg_of X G ad15
  have Fd16 := fun_mk (st := s_require_worths) ld16 cd16 kd16
  have bd16 := Fd16.binds (ps := ["line", "thing"]) fun _ _ _ _ _ _ us hl => match us, hl with | [_, _], _ => rfl
  have vd16 := PySem.W.mg_of X G ad16
  have Fd17 := fun_mk (st := s_is_worths) ld17 cd17 kd17
  have bd17 := Fd17.binds (ps := ["line", "thing"]) fun _ _ _ _ _ _ us hl => match us, hl with | [_, _], _ => rfl
  have vd17 := PySem.W.mg_of X G ad17
  have Fd18 := fun_mk (st := s_clashes) ld18 cd18 kd18
  have bd18 := Fd18.binds (ps := ["line", "lap", "tick"]) fun _ _ _ _ _ _ us hl => match us, hl with | [_, _, _], _ => rfl
  have vd18 := PySem.W.mg_of X G ad18
  have Fd19 := fun_mk (st := s_l_cell) ld19 cd19 kd19
  have bd19 := Fd19.binds (ps := ["_law_script", "_law_k"]) fun _ _ _ _ _ _ us hl => match us, hl with | [_, _], _ => rfl
  have vd19 := PySem.W.mg_of X G ad19
  have Fd20 := fun_mk (st := s_l_pen) ld20 cd20 kd20
  have bd20 := Fd20.binds (ps := ["_law_cell_here"]) fun _ _ _ _ _ _ us hl => match us, hl with | [_], _ => rfl
  have vd20 := PySem.W.mg_of X G ad20
  have Fd21 := fun_mk (st := s_l_draw) ld21 cd21 kd21
  have bd21 := Fd21.binds (ps := ["_law_pen_here", "_law_many"]) fun _ _ _ _ _ _ us hl => match us, hl with | [_, _], _ => rfl
  have vd21 := PySem.W.mg_of X G ad21
  have Fd22 := fun_mk (st := s_l_pick) ld22 cd22 kd22
  have bd22 := Fd22.binds (ps := ["_law_pen_here", "_law_some"]) fun _ _ _ _ _ _ us hl => match us, hl with | [_, _], _ => rfl
  have vd22 := PySem.W.mg_of X G ad22
  have Fd23 := fun_mk (st := s_l_is_whole) ld23 cd23 kd23
  have bd23 := Fd23.binds (ps := ["_law_thing", "_law_low_here", "_law_high"]) fun _ _ _ _ _ _ us hl => match us, hl with | [_, _, _], _ => rfl
  have vd23 := PySem.W.mg_of X G ad23
  have Fd24 := fun_mk (st := s_l_work) ld24 cd24 kd24
  have bd24 := Fd24.binds (ps := ["_law_pen_here", "_law_most", "_law_stations"]) fun _ _ _ _ _ _ us hl => match us, hl with | [_, _, _], _ => rfl
  have vd24 := PySem.W.mg_of X G ad24
  have Fd25 := fun_mk (st := s_l_made) ld25 cd25 kd25
  have bd25 := Fd25.binds (ps := ["_law_works_here"]) fun _ _ _ _ _ _ us hl => match us, hl with | [_], _ => rfl
  have vd25 := PySem.W.mg_of X G ad25
  have Fd26 := fun_mk (st := s_l_works) ld26 cd26 kd26
  have bd26 := Fd26.binds (ps := ["_law_pen_here"]) fun _ _ _ _ _ _ us hl => match us, hl with | [_], _ => rfl
  have vd26 := PySem.W.mg_of X G ad26
  have Fd27 := fun_mk (st := s_l_low) ld27 cd27 kd27
  have bd27 := Fd27.binds (ps := ["_law_top", "_law_bottom"]) fun _ _ _ _ _ _ us hl => match us, hl with | [_, _], _ => rfl
  have vd27 := PySem.W.mg_of X G ad27
  have Fd28 := fun_mk (st := s_l_mean) ld28 cd28 kd28
  have bd28 := Fd28.binds (ps := ["_law_lap_here", "_law_worths_here"]) fun _ _ _ _ _ _ us hl => match us, hl with | [_, _], _ => rfl
  have vd28 := PySem.W.mg_of X G ad28
  have Fd29 := fun_mk (st := s_l_lap) ld29 cd29 kd29
  have bd29 := Fd29.binds (ps := ["_law_pen_here", "_law_many", "_law_most"]) fun _ _ _ _ _ _ us hl => match us, hl with | [_, _, _], _ => rfl
  have vd29 := PySem.W.mg_of X G ad29
  have Fd30 := fun_mk (st := s_l_worths) ld30 cd30 kd30
  have bd30 := Fd30.binds (ps := ["_law_pen_here", "_law_many"]) fun _ _ _ _ _ _ us hl => match us, hl with | [_, _], _ => rfl
  have vd30 := PySem.W.mg_of X G ad30
  have Fd31 := fun_mk (st := s_l_is_lap) ld31 cd31 kd31
  have bd31 := Fd31.binds (ps := ["_law_works_here", "_law_thing"]) fun _ _ _ _ _ _ us hl => match us, hl with | [_, _], _ => rfl
  have vd31 := PySem.W.mg_of X G ad31
  have Fd32 := fun_mk (st := s_l_odds) ld32 cd32 kd32
  have bd32 := Fd32.binds (ps := []) fun _ _ _ _ _ _ us hl => match us, hl with | [], _ => rfl
  have vd32 := PySem.W.mg_of X G ad32
  have Fd33 := fun_mk (st := s_l_great) ld33 cd33 kd33
  have bd33 := Fd33.binds (ps := []) fun _ _ _ _ _ _ us hl => match us, hl with | [], _ => rfl
  have vd33 := PySem.W.mg_of X G ad33
  have Fd34 := fun_mk (st := s_l_bend) ld34 cd34 kd34
  have bd34 := Fd34.binds (ps := ["_law_pen_here", "_law_row"]) fun _ _ _ _ _ _ us hl => match us, hl with | [_, _], _ => rfl
  have vd34 := PySem.W.mg_of X G ad34
  have Fd35 := fun_mk (st := s_l_kind) ld35 cd35 kd35
  have bd35 := Fd35.binds (ps := ["_law_e"]) fun _ _ _ _ _ _ us hl => match us, hl with | [_], _ => rfl
  have vd35 := PySem.W.mg_of X G ad35
  have Fd36 := fun_mk (st := s_l_said) ld36 cd36 kd36
  have bd36 := Fd36.binds (ps := ["_law_call"]) fun _ _ _ _ _ _ us hl => match us, hl with | [_], _ => rfl
  have vd36 := PySem.W.mg_of X G ad36
  have Fd37 := fun_mk (st := s_l_are_worths) ld37 cd37 kd37
  have bd37 := Fd37.binds (ps := ["_law_works_here", "_law_thing"]) fun _ _ _ _ _ _ us hl => match us, hl with | [_, _], _ => rfl
  have vd37 := PySem.W.mg_of X G ad37
  have Fd38 := fun_mk (st := s_l_line_refused) ld38 cd38 kd38
  have bd38 := Fd38.binds (ps := ["_law_bad"]) fun _ _ _ _ _ _ us hl => match us, hl with | [_], _ => rfl
  have vd38 := PySem.W.mg_of X G ad38
  have Fd39 := fun_mk (st := s_l_lap_right) ld39 cd39 kd39
  have bd39 := Fd39.binds (ps := ["_law_made_here", "_law_works_here", "_law_worths_here", "_law_thing"]) fun _ _ _ _ _ _ us hl => match us, hl with | [_, _, _, _], _ => rfl
  have vd39 := PySem.W.mg_of X G ad39
  have Fd40 := fun_mk (st := s_l_worths_right) ld40 cd40 kd40
  have bd40 := Fd40.binds (ps := ["_law_made_here", "_law_works_here", "_law_lap_here", "_law_thing"]) fun _ _ _ _ _ _ us hl => match us, hl with | [_, _, _, _], _ => rfl
  have vd40 := PySem.W.mg_of X G ad40
  have Fd41 := fun_mk (st := s_law) ld41 cd41 kd41
  have bd41 := Fd41.binds (ps := ["_law_script"]) fun _ _ _ _ _ _ us hl => match us, hl with | [_], _ => rfl
  have vd41 := PySem.W.mg_of X G ad41
  have Fm0 := fun_mk (st := s_Line_init) lm0 cm0 km0
  have Fm1 := fun_mk (st := s_Line_len) lm1 cm1 km1
  have bm1 := Fm1.binds (ps := ["self"]) fun _ _ _ _ _ _ us hl => match us, hl with | [_], _ => rfl
  have Fm2 := fun_mk (st := s_Line_call) lm2 cm2 km2
  have bm2 := Fm2.binds (ps := ["self", "one", "other"]) fun _ _ _ _ _ _ us hl => match us, hl with | [_, _, _], _ => rfl
  have Fm3 := fun_mk (st := s_Line_add) lm3 cm3 km3
  have bm3 := Fm3.binds (ps := ["self", "other"]) fun _ _ _ _ _ _ us hl => match us, hl with | [_, _], _ => rfl
  have Fm4 := fun_mk (st := s_Line_sub) lm4 cm4 km4
  have bm4 := Fm4.binds (ps := ["self", "other"]) fun _ _ _ _ _ _ us hl => match us, hl with | [_, _], _ => rfl
  have Fm5 := fun_mk (st := s_Line_neg) lm5 cm5 km5
  have bm5 := Fm5.binds (ps := ["self"]) fun _ _ _ _ _ _ us hl => match us, hl with | [_], _ => rfl
  have Fm6 := fun_mk (st := s_Line_eq) lm6 cm6 km6
  have bm6 := Fm6.binds (ps := ["self", "other"]) fun _ _ _ _ _ _ us hl => match us, hl with | [_, _], _ => rfl
  have Fm7 := fun_mk (st := s_Line_getitem) lm7 cm7 km7
  have bm7 := Fm7.binds (ps := ["self", "at"]) fun _ _ _ _ _ _ us hl => match us, hl with | [_, _], _ => rfl
  have Fm8 := fun_mk (st := s_Line_repr) lm8 cm8 km8
  have bm8 := Fm8.binds (ps := ["self"]) fun _ _ _ _ _ _ us hl => match us, hl with | [_], _ => rfl
  have Fp0 := fun_mk (st := s_Line_works) lp0 cp0 kp0
  have bp0 := Fp0.binds (ps := ["self"]) fun _ _ _ _ _ _ us hl => match us, hl with | [_], _ => rfl
  have N_NOWHERE : ∃ t, mg "NOWHERE" = some (.int (-1) t) := ⟨_, PySem.W.mg_of X G u_NOWHERE⟩
  have N_STATIONS : ∃ t, mg "STATIONS" = some (.int (10) t) := ⟨_, PySem.W.mg_of X G u_STATIONS⟩
  have N_MOST_ITEMS : ∃ t, mg "MOST_ITEMS" = some (.int (60) t) := ⟨_, PySem.W.mg_of X G u_MOST_ITEMS⟩
  have N_MOST_WORKS : ∃ t, mg "MOST_WORKS" = some (.int (3) t) := ⟨_, PySem.W.mg_of X G u_MOST_WORKS⟩
  have N_NOTHING : ∃ t, mg "NOTHING" = some (.int (-1) t) := ⟨_, PySem.W.mg_of X G u_NOTHING⟩
  have N_MOST_WORTH : ∃ t, mg "MOST_WORTH" = some (.int (20) t) := ⟨_, PySem.W.mg_of X G u_MOST_WORTH⟩
  have cl : Cls K C := ⟨pg, hd, po, sa⟩
  have T : LC K mg C := ⟨cl, nW, nB, nR, PySem.W.mg_of X G aC⟩
  have kit : PySem.W.kitOne K (.ref C) (.ref C) = some true := by unfold PySem.W.kitOne; simp
  have I : LI K C := ⟨ha, hn, ht, hm, kit⟩
  have O : Ops K C := ⟨sf, ⟨none, rs, .inl rfl⟩, ⟨_, is1⟩, ⟨_, ir1⟩, nsub, ne, ob⟩
  have Mi : Mk K C fm0 := ⟨mk, am0, im0, kc⟩
  let Cf : Nat → Addr := fun i => [C0, C1, C2, C3, C4, C5, C6, C7, C8, C9, C10, C11, C12, C13, C14, C15, C16, C17, C18, C19, C20, C21, C22, C23, C24, C25, C26, C27].getD i 0
  have kn : ∀ i, i < 28 → mg (kNames.getD i "") = some (.ref (Cf i)) := fun i hi => by
    match i, hi with
    | 0, _ => exact PySem.W.mg_of X G aC0
    | 1, _ => exact PySem.W.mg_of X G aC1
    | 2, _ => exact PySem.W.mg_of X G aC2
    | 3, _ => exact PySem.W.mg_of X G aC3
    | 4, _ => exact PySem.W.mg_of X G aC4
    | 5, _ => exact PySem.W.mg_of X G aC5
    | 6, _ => exact PySem.W.mg_of X G aC6
    | 7, _ => exact PySem.W.mg_of X G aC7
    | 8, _ => exact PySem.W.mg_of X G aC8
    | 9, _ => exact PySem.W.mg_of X G aC9
    | 10, _ => exact PySem.W.mg_of X G aC10
    | 11, _ => exact PySem.W.mg_of X G aC11
    | 12, _ => exact PySem.W.mg_of X G aC12
    | 13, _ => exact PySem.W.mg_of X G aC13
    | 14, _ => exact PySem.W.mg_of X G aC14
    | 15, _ => exact PySem.W.mg_of X G aC15
    | 16, _ => exact PySem.W.mg_of X G aC16
    | 17, _ => exact PySem.W.mg_of X G aC17
    | 18, _ => exact PySem.W.mg_of X G aC18
    | 19, _ => exact PySem.W.mg_of X G aC19
    | 20, _ => exact PySem.W.mg_of X G aC20
    | 21, _ => exact PySem.W.mg_of X G aC21
    | 22, _ => exact PySem.W.mg_of X G aC22
    | 23, _ => exact PySem.W.mg_of X G aC23
    | 24, _ => exact PySem.W.mg_of X G aC24
    | 25, _ => exact PySem.W.mg_of X G aC25
    | 26, _ => exact PySem.W.mg_of X G aC26
    | 27, _ => exact PySem.W.mg_of X G aC27
    | n + 28, z => exact absurd z (by omega)
  have Er1 : Err K mg "NoLine" C1 := ⟨PySem.W.mg_of X G aC1, er_x1, er_k1, er_b1, tC1⟩
  have KO1 : KindOk K Cf C1 1 := ⟨by decide, ⟨er_hg1, er_hk1, er_b1, er_hd1, er_ha1, hnX, htX, er_hm1⟩, fun i hi => by
    match i, hi with
    | 0, _ => exact kit_no er_s1 iC0 tC0 er_n1_0
    | 1, _ => exact kit_self
    | 2, _ => exact kit_no er_s1 iC2 tC2 er_n1_2
    | 3, _ => exact kit_no er_s1 iC3 tC3 er_n1_3
    | 4, _ => exact kit_no er_s1 iC4 tC4 er_n1_4
    | 5, _ => exact kit_no er_s1 iC5 tC5 er_n1_5
    | 6, _ => exact kit_no er_s1 iC6 tC6 er_n1_6
    | 7, _ => exact kit_no er_s1 iC7 tC7 er_n1_7
    | 8, _ => exact kit_no er_s1 iC8 tC8 er_n1_8
    | 9, _ => exact kit_no er_s1 iC9 tC9 er_n1_9
    | 10, _ => exact kit_no er_s1 iC10 tC10 er_n1_10
    | 11, _ => exact kit_no er_s1 iC11 tC11 er_n1_11
    | 12, _ => exact kit_no er_s1 iC12 tC12 er_n1_12
    | 13, _ => exact kit_no er_s1 iC13 tC13 er_n1_13
    | 14, _ => exact kit_no er_s1 iC14 tC14 er_n1_14
    | 15, _ => exact kit_no er_s1 iC15 tC15 er_n1_15
    | 16, _ => exact kit_no er_s1 iC16 tC16 er_n1_16
    | 17, _ => exact kit_no er_s1 iC17 tC17 er_n1_17
    | 18, _ => exact kit_no er_s1 iC18 tC18 er_n1_18
    | 19, _ => exact kit_no er_s1 iC19 tC19 er_n1_19
    | 20, _ => exact kit_no er_s1 iC20 tC20 er_n1_20
    | 21, _ => exact kit_no er_s1 iC21 tC21 er_n1_21
    | 22, _ => exact kit_no er_s1 iC22 tC22 er_n1_22
    | 23, _ => exact kit_no er_s1 iC23 tC23 er_n1_23
    | 24, _ => exact kit_no er_s1 iC24 tC24 er_n1_24
    | 25, _ => exact kit_no er_s1 iC25 tC25 er_n1_25
    | 26, _ => exact kit_no er_s1 iC26 tC26 er_n1_26
    | 27, _ => exact kit_no er_s1 iC27 tC27 er_n1_27
    | n + 28, z => exact absurd z (by omega), kit_val er_v1⟩
  have ex1 : PySem.W.exmOne K (.ref C1) (.ref Gp) = some true := exm_sub bGp iGp tGp er_g1
  have Er10 : Err K mg "NoLap" C10 := ⟨PySem.W.mg_of X G aC10, er_x10, er_k10, er_b10, tC10⟩
  have KO10 : KindOk K Cf C10 10 := ⟨by decide, ⟨er_hg10, er_hk10, er_b10, er_hd10, er_ha10, hnX, htX, er_hm10⟩, fun i hi => by
    match i, hi with
    | 0, _ => exact kit_no er_s10 iC0 tC0 er_n10_0
    | 1, _ => exact kit_no er_s10 iC1 tC1 er_n10_1
    | 2, _ => exact kit_no er_s10 iC2 tC2 er_n10_2
    | 3, _ => exact kit_no er_s10 iC3 tC3 er_n10_3
    | 4, _ => exact kit_no er_s10 iC4 tC4 er_n10_4
    | 5, _ => exact kit_no er_s10 iC5 tC5 er_n10_5
    | 6, _ => exact kit_no er_s10 iC6 tC6 er_n10_6
    | 7, _ => exact kit_no er_s10 iC7 tC7 er_n10_7
    | 8, _ => exact kit_no er_s10 iC8 tC8 er_n10_8
    | 9, _ => exact kit_no er_s10 iC9 tC9 er_n10_9
    | 10, _ => exact kit_self
    | 11, _ => exact kit_no er_s10 iC11 tC11 er_n10_11
    | 12, _ => exact kit_no er_s10 iC12 tC12 er_n10_12
    | 13, _ => exact kit_no er_s10 iC13 tC13 er_n10_13
    | 14, _ => exact kit_no er_s10 iC14 tC14 er_n10_14
    | 15, _ => exact kit_no er_s10 iC15 tC15 er_n10_15
    | 16, _ => exact kit_no er_s10 iC16 tC16 er_n10_16
    | 17, _ => exact kit_no er_s10 iC17 tC17 er_n10_17
    | 18, _ => exact kit_no er_s10 iC18 tC18 er_n10_18
    | 19, _ => exact kit_no er_s10 iC19 tC19 er_n10_19
    | 20, _ => exact kit_no er_s10 iC20 tC20 er_n10_20
    | 21, _ => exact kit_no er_s10 iC21 tC21 er_n10_21
    | 22, _ => exact kit_no er_s10 iC22 tC22 er_n10_22
    | 23, _ => exact kit_no er_s10 iC23 tC23 er_n10_23
    | 24, _ => exact kit_no er_s10 iC24 tC24 er_n10_24
    | 25, _ => exact kit_no er_s10 iC25 tC25 er_n10_25
    | 26, _ => exact kit_no er_s10 iC26 tC26 er_n10_26
    | 27, _ => exact kit_no er_s10 iC27 tC27 er_n10_27
    | n + 28, z => exact absurd z (by omega), kit_val er_v10⟩
  have ex10 : PySem.W.exmOne K (.ref C10) (.ref Gp) = some true := exm_sub bGp iGp tGp er_g10
  have Er12 : Err K mg "NoWorths" C12 := ⟨PySem.W.mg_of X G aC12, er_x12, er_k12, er_b12, tC12⟩
  have KO12 : KindOk K Cf C12 12 := ⟨by decide, ⟨er_hg12, er_hk12, er_b12, er_hd12, er_ha12, hnX, htX, er_hm12⟩, fun i hi => by
    match i, hi with
    | 0, _ => exact kit_no er_s12 iC0 tC0 er_n12_0
    | 1, _ => exact kit_no er_s12 iC1 tC1 er_n12_1
    | 2, _ => exact kit_no er_s12 iC2 tC2 er_n12_2
    | 3, _ => exact kit_no er_s12 iC3 tC3 er_n12_3
    | 4, _ => exact kit_no er_s12 iC4 tC4 er_n12_4
    | 5, _ => exact kit_no er_s12 iC5 tC5 er_n12_5
    | 6, _ => exact kit_no er_s12 iC6 tC6 er_n12_6
    | 7, _ => exact kit_no er_s12 iC7 tC7 er_n12_7
    | 8, _ => exact kit_no er_s12 iC8 tC8 er_n12_8
    | 9, _ => exact kit_no er_s12 iC9 tC9 er_n12_9
    | 10, _ => exact kit_no er_s12 iC10 tC10 er_n12_10
    | 11, _ => exact kit_no er_s12 iC11 tC11 er_n12_11
    | 12, _ => exact kit_self
    | 13, _ => exact kit_no er_s12 iC13 tC13 er_n12_13
    | 14, _ => exact kit_no er_s12 iC14 tC14 er_n12_14
    | 15, _ => exact kit_no er_s12 iC15 tC15 er_n12_15
    | 16, _ => exact kit_no er_s12 iC16 tC16 er_n12_16
    | 17, _ => exact kit_no er_s12 iC17 tC17 er_n12_17
    | 18, _ => exact kit_no er_s12 iC18 tC18 er_n12_18
    | 19, _ => exact kit_no er_s12 iC19 tC19 er_n12_19
    | 20, _ => exact kit_no er_s12 iC20 tC20 er_n12_20
    | 21, _ => exact kit_no er_s12 iC21 tC21 er_n12_21
    | 22, _ => exact kit_no er_s12 iC22 tC22 er_n12_22
    | 23, _ => exact kit_no er_s12 iC23 tC23 er_n12_23
    | 24, _ => exact kit_no er_s12 iC24 tC24 er_n12_24
    | 25, _ => exact kit_no er_s12 iC25 tC25 er_n12_25
    | 26, _ => exact kit_no er_s12 iC26 tC26 er_n12_26
    | 27, _ => exact kit_no er_s12 iC27 tC27 er_n12_27
    | n + 28, z => exact absurd z (by omega), kit_val er_v12⟩
  have ex12 : PySem.W.exmOne K (.ref C12) (.ref Gp) = some true := exm_sub bGp iGp tGp er_g12
  have vGp := PySem.W.mg_of X G aGp
  have LD0 : LamDef q K "_law_line_refused" cL0 PL0 := ⟨rL0, tL0, oL0⟩
  have LD1 : LamDef q K "_law_lap_right" cL1 PL1 := ⟨rL1, tL1, oL1⟩
  have LD2 : LamDef q K "_law_worths_right" cL2 PL2 := ⟨rL2, tL2, oL2⟩
  have mem : ∀ p ∈ [(cL0, PL0), (cL1, PL1), (cL2, PL2)], ∃ y, LamDef q K y p.1 p.2 := fun p hp => by
    rcases List.mem_cons.mp hp with rfl | hp
    · exact ⟨_, LD0⟩
    rcases List.mem_cons.mp hp with rfl | hp
    · exact ⟨_, LD1⟩
    rcases List.mem_cons.mp hp with rfl | hp
    · exact ⟨_, LD2⟩
    exact nomatch hp
  refine ⟨[(cL0, PL0), (cL1, PL1), (cL2, PL2)], PySem.W.fnOf "law" "law" (defArgs s_law) (defBody s_law) (defScope s_law) .none kVd41 dcd41 pmd41 and41 cdd41 ctd41, mem, fun s v => .of_eq rfl, fun base _ _ TBs => ?_⟩
  have TB0 : LamX.TabB base mg cL0 PL0 := TBs (cL0, PL0) (by simp)
  have TB1 : LamX.TabB base mg cL1 PL1 := TBs (cL1, PL1) (by simp)
  have TB2 : LamX.TabB base mg cL2 PL2 := TBs (cL2, PL2) (by simp)
  have Gd0 := ok_is_int (P := l.prog) (w := w) (mg := mg) (base := base) (k := 0) Fd0 y_isinstance y_int y_bool
  have Gd1 := ok_is_between (P := l.prog) (w := w) (mg := mg) (base := base) (k := 1) Fd1 (Gd0.mono (by decide)) kd0 bd0 vd0
  have N : Nums mg := ⟨N_NOWHERE, N_STATIONS, N_MOST_ITEMS⟩
  have Gd3 := ok_is_work (P := l.prog) (w := w) (mg := mg) (base := base) (k := 2) Fd3 N (Gd1.mono (by decide)) kd1 bd1 vd1 y_isinstance y_tuple y_len y_all
  have Gd5 := ok_require_work (P := l.prog) (w := w) (mg := mg) (base := base) (k := 3) Fd5 (Gd3.mono (by decide)) kd3 bd3 vd3
  have Gd6 := ok_clashes_behind (P := l.prog) (w := w) (mg := mg) (base := base) (k := 3) Fd6 N y_any y_zip
  have Gd4 := ok_bars (P := l.prog) (w := w) (mg := mg) (base := base) (k := 4) Fd4 Gd5 kd5 bd5 vd5 Gd6 kd6 bd6 vd6 y_tuple y_range y_len
  have Gd9 := ok_bars_of_all (P := l.prog) (w := w) (mg := mg) (base := base) (k := 5) Fd9 y_tuple Gd4 kd4 bd4 vd4
  have Gi := ok_init (P := l.prog) (w := w) (mg := mg) (base := base) (k := 6) Fm0 T N_MOST_WORKS (Gd3.mono (by decide)) kd3 bd3 vd3 Gd9 kd9 bd9 vd9 y_all y_len y_max
  have Glen := ok_len (P := l.prog) (w := w) (mg := mg) (base := base) (k := 1) Fm1 T y_len
  have Gd7 := ok_is_kind (P := l.prog) (w := w) (mg := mg) (base := base) (k := 2) Fd7 T y_len Gd1 kd1 bd1 vd1 Glen bm1 am1 im1
  have Gd8 := ok_require_kind (P := l.prog) (w := w) (mg := mg) (base := base) (k := 4) Fd8 Gd7 kd7 bd7 vd7
  have Gcall := ok_call (P := l.prog) (w := w) (mg := mg) (base := base) (k := 5) Fm2 T Gd8 kd8 bd8 vd8
  have Gadd := ok_add (P := l.prog) (w := w) (mg := mg) (base := base) (k := 7) Fm3 T I Mi Gi y_isinstance
  have Gsub := ok_sub (P := l.prog) (w := w) (mg := mg) (base := base) (k := 7) Fm4 T Mi Gi (Gd8.mono (by decide)) kd8 bd8 vd8 y_len
  have Gneg := ok_neg (P := l.prog) (w := w) (mg := mg) (base := base) (k := 7) Fm5 T Mi Gi
  have Geq := ok_eq (P := l.prog) (w := w) (mg := mg) (base := base) (k := 0) Fm6 T I y_isinstance
  have Gw := fn_getter (CX := CX0) (P := l.prog) (w := w) (mg := mg) (base := base) (k := 0) lp0 cp0 sc_Line_works rfl rfl cl nW
  have M : Meths l.prog w K mg base 10 C := ⟨T, I, O, ⟨_, _, Glen.mono (by decide), bm1, am1, im1⟩, ⟨_, _, ⟨Gcall.mono (by decide), bm2, am2, im2⟩, fi⟩, ⟨_, _, Gadd.mono (by decide), bm3, am3, im3⟩, ⟨_, _, Gsub.mono (by decide), bm4, am4, im4⟩, ⟨_, _, Gneg.mono (by decide), bm5, am5, im5⟩, ⟨_, _, Geq.mono (by decide), bm6, am6, im6⟩, ⟨_, _, _, ⟨ap0, gp0, tp0, _, rp0⟩, Gw.mono (by decide), bp0⟩, ⟨_, Mi, Gi.mono (by decide)⟩⟩
  have Gitem := ok_item (P := l.prog) (w := w) (mg := mg) (base := base) (k := 5) Fm7 T Gd8 kd8 bd8 vd8
  have Grepr := ok_repr (P := l.prog) (w := w) (mg := mg) (base := base) (k := 0) Fm8 T y_len
  have M2 : Meths2 l.prog w K mg base 10 C := ⟨M, ⟨_, _, ⟨Gitem.mono (by decide), bm7, am7, im7⟩, fg⟩, ⟨_, _, Grepr.mono (by decide), bm8, am8, im8⟩⟩
  have NI : NoInst K C := noInst_by (kit_tno iCl tCl ns_NoneType) (kit_tno iCl tCl ns_bool) (kit_tno iCl tCl ns_int) (kit_tno iCl tCl ns_str) (kit_tno iCl tCl ns_list) (kit_tno iCl tCl ns_tuple) (kit_tno iCl tCl ns_dict)
  have yg := PySem.W.mg_of X G ug
  have GAi := ok_is_intA (P := l.prog) (w := w) (mg := mg) (base := base) (k := 0) Fd0 y_isinstance y_int y_bool
  have GAb := ok_is_betweenA (P := l.prog) (w := w) (mg := mg) (base := base) (k := 1) Fd1 (GAi.mono (by decide)) kd0 bd0 vd0
  have GArl := ok_require_lineA (P := l.prog) (w := w) (mg := mg) (base := base) (k := 0) Fd10 Er1 NI T I y_isinstance
  have GAil := ok_is_lapA (P := l.prog) (w := w) (mg := mg) (base := base) (k := 10) Fd13 M2 N_NOTHING (GAb.mono (by decide)) kd1 bd1 vd1 y_isinstance y_tuple y_len y_all
  have GAiw := ok_is_worthsA (P := l.prog) (w := w) (mg := mg) (base := base) (k := 10) Fd17 M2 N_MOST_WORTH (GAb.mono (by decide)) kd1 bd1 vd1 y_isinstance y_tuple y_len y_all y_sum
  have GArp := ok_require_lapA (P := l.prog) (w := w) (mg := mg) (base := base) (k := 13) Fd15 Er10 (GArl.mono (by decide)) kd10 bd10 vd10 (GAil.mono (by decide)) kd13 bd13 vd13
  have GArw := ok_require_worthsA (P := l.prog) (w := w) (mg := mg) (base := base) (k := 13) Fd16 Er12 (GArl.mono (by decide)) kd10 bd10 vd10 (GAiw.mono (by decide)) kd17 bd17 vd17
  have Gd18 := ok_clashes (P := l.prog) (w := w) (mg := mg) (base := base) (k := 10) Fd18 M2 N_NOTHING y_any y_range y_len
  have GAf := ok_fitsA (P := l.prog) (w := w) (mg := mg) (base := base) (k := 14) Fd11 (GArp.mono (by decide)) kd15 bd15 vd15 (Gd18.mono (by decide)) kd18 bd18 vd18 y_any y_range y_len
  have Gd14 := ok_worth_of (P := l.prog) (w := w) (mg := mg) (base := base) (k := 0) Fd14 N_NOTHING
  have Gd2 := ok_fraction (P := l.prog) (w := w) (mg := mg) (base := base) (k := 0) Fd2 yg
  have GAm := ok_meanA (P := l.prog) (w := w) (mg := mg) (base := base) (k := 14) Fd12 (GArp.mono (by decide)) kd15 bd15 vd15 (GArw.mono (by decide)) kd16 bd16 vd16 (Gd14.mono (by decide)) kd14 bd14 vd14 (Gd2.mono (by decide)) kd2 bd2 vd2 y_sum y_len
  have Gd19 := ok_l_cell (P := l.prog) (w := w) (mg := mg) (base := base) (k := 0) Fd19 y_len
  have Gd20 := ok_l_pen (P := l.prog) (w := w) (mg := mg) (base := base) (k := 0) Fd20 y_max
  have Gd21 := ok_l_draw (P := l.prog) (w := w) (mg := mg) (base := base) (k := 0) Fd21
  have GPi := ok_pick (P := l.prog) (w := w) (mg := mg) (base := base) (k := 1) Fd22 (Gd21.mono (by decide)) kd21 bd21 vd21 y_len
  have GPa := ok_l_pickA (P := l.prog) (w := w) (mg := mg) (base := base) (k := 1) Fd22 (Gd21.mono (by decide)) kd21 bd21 vd21 y_len
  have Gd24 := ok_l_work (P := l.prog) (w := w) (mg := mg) (base := base) (k := 1) Fd24 (Gd21.mono (by decide)) kd21 bd21 vd21 y_range y_tuple
  have Gd25 := ok_made (P := l.prog) (w := w) (mg := mg) (base := base) (k := 7) Fd25 T Mi Gi y_len
  have Gd26 := ok_l_works (P := l.prog) (w := w) (mg := mg) (base := base) (k := 2) Fd26 (Gd21.mono (by decide)) kd21 bd21 vd21 (Gd24.mono (by decide)) kd24 bd24 vd24 y_range y_tuple
  have Gd27 := ok_low (P := l.prog) (w := w) (mg := mg) (base := base) (k := 0) Fd27
  have Gd28 := ok_l_mean (P := l.prog) (w := w) (mg := mg) (base := base) (k := 1) Fd28 (Gd27.mono (by decide)) kd27 bd27 vd27 y_sum y_len
  have Gd29 := ok_l_lap (P := l.prog) (w := w) (mg := mg) (base := base) (k := 1) Fd29 (Gd21.mono (by decide)) kd21 bd21 vd21 y_range y_tuple
  have Gd30 := ok_l_worths (P := l.prog) (w := w) (mg := mg) (base := base) (k := 2) Fd30 (Gd21.mono (by decide)) kd21 bd21 vd21 (GPi.mono (by decide)) kd22 bd22 vd22 y_range y_tuple
  have Gd23 := ok_is_whole (P := l.prog) (w := w) (mg := mg) (base := base) (k := 0) Fd23 y_isinstance y_int y_bool
  have Gd31 := ok_l_is_lap (P := l.prog) (w := w) (mg := mg) (base := base) (k := 1) Fd31 (Gd23.mono (by decide)) kd23 bd23 vd23 y_isinstance y_tuple y_len
  have Gd37 := ok_l_are_worths (P := l.prog) (w := w) (mg := mg) (base := base) (k := 1) Fd37 (Gd23.mono (by decide)) kd23 bd23 vd23 y_isinstance y_tuple y_len y_sum
  have Gd32 := ok_l_odds (P := l.prog) (w := w) (mg := mg) (base := base) (k := 0) Fd32
  have Gd33 := ok_l_great (P := l.prog) (w := w) (mg := mg) (base := base) (k := 0) Fd33 y_range
  have Gd34 := ok_l_bend (P := l.prog) (w := w) (mg := mg) (base := base) (k := 2) Fd34 (Gd21.mono (by decide)) kd21 bd21 vd21 (GPa.mono (by decide)) kd22 bd22 vd22 y_len y_list y_tuple y_str
  have Gd35 := ok_l_kind (P := l.prog) (w := w) (mg := mg) (base := base) (k := 0) Fd35 kn y_isinstance y_ValueError
  have SO1 : SaidOkG K Cf Gp C1 1 "line" := ⟨KO1, rfl, by decide, by decide, ex1⟩
  have SO10 : SaidOkG K Cf Gp C10 10 "lap" := ⟨KO10, rfl, by decide, by decide, ex10⟩
  have SO12 : SaidOkG K Cf Gp C12 12 "worths" := ⟨KO12, rfl, by decide, by decide, ex12⟩
  let TT : List (Addr × Str) := [(PL0, lamQ "_law_line_refused"), (PL1, lamQ "_law_lap_right"), (PL2, lamQ "_law_worths_right")]
  have hm0 : (PL0, lamQ "_law_line_refused") ∈ TT := by simp [TT]
  have hu0 : ∀ p ∈ TT, p.1 = PL0 → p.2 = lamQ "_law_line_refused" := fun p hp e => by
    rcases List.mem_cons.mp hp with rfl | hp
    · rfl
    rcases List.mem_cons.mp hp with rfl | hp
    · exact absurd e (Ne.symm dL01)
    rcases List.mem_cons.mp hp with rfl | hp
    · exact absurd e (Ne.symm dL02)
    exact nomatch hp
  have hm1 : (PL1, lamQ "_law_lap_right") ∈ TT := by simp [TT]
  have hu1 : ∀ p ∈ TT, p.1 = PL1 → p.2 = lamQ "_law_lap_right" := fun p hp e => by
    rcases List.mem_cons.mp hp with rfl | hp
    · exact absurd e dL01
    rcases List.mem_cons.mp hp with rfl | hp
    · rfl
    rcases List.mem_cons.mp hp with rfl | hp
    · exact absurd e (Ne.symm dL12)
    exact nomatch hp
  have hm2 : (PL2, lamQ "_law_worths_right") ∈ TT := by simp [TT]
  have hu2 : ∀ p ∈ TT, p.1 = PL2 → p.2 = lamQ "_law_worths_right" := fun p hp e => by
    rcases List.mem_cons.mp hp with rfl | hp
    · exact absurd e dL02
    rcases List.mem_cons.mp hp with rfl | hp
    · exact absurd e dL12
    rcases List.mem_cons.mp hp with rfl | hp
    · rfl
    exact nomatch hp
  have Gd38 := ok_l_line_refused (P := l.prog) (w := w) (mg := mg) (base := base) (k := 16) (C := Cf) (T := TT) Fd38 (tab_code ad38 ld38 tL0) TB0 hm0 hu0 Fd36 kd36 bd36 vd36 (Gd35.mono (by decide)) kd35 bd35 vd35 (GAf.mono (by decide)) kd11 bd11 vd11 (GAm.mono (by decide)) kd12 bd12 vd12 SO1 SO10 SO12 vGp y_repr 
  have Gd39 := ok_l_lap_right (P := l.prog) (w := w) (mg := mg) (base := base) (k := 16) (C := Cf) (T := TT) Fd39 (tab_code ad39 ld39 tL1) TB1 hm1 hu1 Fd36 kd36 bd36 vd36 (Gd35.mono (by decide)) kd35 bd35 vd35 (GAf.mono (by decide)) kd11 bd11 vd11 (GAm.mono (by decide)) kd12 bd12 vd12 SO1 SO10 SO12 vGp y_repr (Gd31.mono (by decide)) kd31 bd31 vd31 (Gd28.mono (by decide)) kd28 bd28 vd28
  have Gd40 := ok_l_worths_right (P := l.prog) (w := w) (mg := mg) (base := base) (k := 16) (C := Cf) (T := TT) Fd40 (tab_code ad40 ld40 tL2) TB2 hm2 hu2 Fd36 kd36 bd36 vd36 (Gd35.mono (by decide)) kd35 bd35 vd35 (GAf.mono (by decide)) kd11 bd11 vd11 (GAm.mono (by decide)) kd12 bd12 vd12 SO1 SO10 SO12 vGp y_repr (Gd37.mono (by decide)) kd37 bd37 vd37 (Gd28.mono (by decide)) kd28 bd28 vd28
  exact ok_law (P := l.prog) (w := w) (mg := mg) (base := base) (k := 20) Fd41 (Gd19.mono (by decide)) kd19 bd19 vd19 (Gd20.mono (by decide)) kd20 bd20 vd20 (Gd26.mono (by decide)) kd26 bd26 vd26 (Gd25.mono (by decide)) kd25 bd25 vd25 (Gd29.mono (by decide)) kd29 bd29 vd29 (Gd30.mono (by decide)) kd30 bd30 vd30 (Gd32.mono (by decide)) kd32 bd32 vd32 (Gd34.mono (by decide)) kd34 bd34 vd34 (Gd39.mono (by decide)) kd39 bd39 vd39 (Gd40.mono (by decide)) kd40 bd40 vd40 (Gd33.mono (by decide)) kd33 bd33 vd33 (Gd38.mono (by decide)) kd38 bd38 vd38 y_range y_len y_list
end Sg
set_option Elab.async false
set_option linter.all false
local macro_rules | `(tactic| kernel_rfl) => `(tactic| (with_reducible refine Sg.carry ?ee _ ?cc; (case ee => kernel_rfl); (case cc => kernel_rfl)))
open PySem PySem.W PyProof.Rows
set_option maxRecDepth 100000 in
set_option maxHeartbeats 0 in
theorem PySem.Challenge.cw_startgaps_k13_laps_refuse_holds : PySem.Challenge.rw_startgaps_k13_laps_refuse.Holds := by
  w_on; o_law; k_headL; (case hw => w_witness2)
  k_fill
  refine Sg.walk_lawT (l := PySem.Challenge.rw_startgaps_k13_laps_refuse) (k := 21) (x := "_law_script") (sp := Sg.spT) rfl rfl ⟨rfl, by decide, by decide⟩ (fun w h Y => PySem.W.kIn_of Y) ?F Sg.spT_end
  case F =>
    intro w mg fa h KX G hmg
    refine' Sg.all_mk KX G hmg ?ad0 ?ld0 ?cd0 ?kd0 ?ad1 ?ld1 ?cd1 ?kd1 ?ad2 ?ld2 ?cd2 ?kd2 ?ad3 ?ld3 ?cd3 ?kd3 ?ad4 ?ld4 ?cd4 ?kd4 ?ad5 ?ld5 ?cd5 ?kd5 ?ad6 ?ld6 ?cd6 ?kd6 ?ad7 ?ld7 ?cd7 ?kd7 ?ad8 ?ld8 ?cd8 ?kd8 ?ad9 ?ld9 ?cd9 ?kd9 ?ad10 ?ld10 ?cd10 ?kd10 ?ad11 ?ld11 ?cd11 ?kd11 ?ad12 ?ld12 ?cd12 ?kd12 ?ad13 ?ld13 ?cd13 ?kd13 ?ad14 ?ld14 ?cd14 ?kd14 ?ad15 ?ld15 ?cd15 ?kd15 ?ad16 ?ld16 ?cd16 ?kd16 ?ad17 ?ld17 ?cd17 ?kd17 ?ad18 ?ld18 ?cd18 ?kd18 ?ad19 ?ld19 ?cd19 ?kd19 ?ad20 ?ld20 ?cd20 ?kd20 ?ad21 ?ld21 ?cd21 ?kd21 ?ad22 ?ld22 ?cd22 ?kd22 ?ad23 ?ld23 ?cd23 ?kd23 ?ad24 ?ld24 ?cd24 ?kd24 ?ad25 ?ld25 ?cd25 ?kd25 ?ad26 ?ld26 ?cd26 ?kd26 ?ad27 ?ld27 ?cd27 ?kd27 ?ad28 ?ld28 ?cd28 ?kd28 ?ad29 ?ld29 ?cd29 ?kd29 ?ad30 ?ld30 ?cd30 ?kd30 ?ad31 ?ld31 ?cd31 ?kd31 ?ad32 ?ld32 ?cd32 ?kd32 ?ad33 ?ld33 ?cd33 ?kd33 ?ad34 ?ld34 ?cd34 ?kd34 ?ad35 ?ld35 ?cd35 ?kd35 ?ad36 ?ld36 ?cd36 ?kd36 ?ad37 ?ld37 ?cd37 ?kd37 ?ad38 ?ld38 ?cd38 ?kd38 ?ad39 ?ld39 ?cd39 ?kd39 ?ad40 ?ld40 ?cd40 ?kd40 ?ad41 ?ld41 ?cd41 ?kd41 ?aC ?am0 ?im0 ?lm0 ?cm0 ?km0 ?am1 ?im1 ?lm1 ?cm1 ?km1 ?am2 ?im2 ?lm2 ?cm2 ?km2 ?am3 ?im3 ?lm3 ?cm3 ?km3 ?am4 ?im4 ?lm4 ?cm4 ?km4 ?am5 ?im5 ?lm5 ?cm5 ?km5 ?am6 ?im6 ?lm6 ?cm6 ?km6 ?am7 ?im7 ?lm7 ?cm7 ?km7 ?am8 ?im8 ?lm8 ?cm8 ?km8 ?ap0 ?gp0 ?tp0 ?rp0 ?lp0 ?cp0 ?kp0 ?pg ?hd ?po ?sa ?mk ?kc ?nW ?nB ?nR ?ha ?hn ?ht ?hm ?sf ?rs ?is1 ?ir1 ?nsub ?ne ?ob ?fi ?fg ?ug ?iCl ?tCl ?ns_NoneType ?ns_bool ?ns_int ?ns_str ?ns_list ?ns_tuple ?ns_dict ?z_isinstance ?z_int ?z_bool ?z_tuple ?z_len ?z_all ?z_any ?z_zip ?z_range ?z_max ?z_sum ?z_list ?z_str ?z_repr ?z_ValueError ?u_NOWHERE ?u_STATIONS ?u_MOST_ITEMS ?u_MOST_WORKS ?u_NOTHING ?u_MOST_WORTH ?aC0 ?iC0 ?tC0 ?aC1 ?iC1 ?tC1 ?aC2 ?iC2 ?tC2 ?aC3 ?iC3 ?tC3 ?aC4 ?iC4 ?tC4 ?aC5 ?iC5 ?tC5 ?aC6 ?iC6 ?tC6 ?aC7 ?iC7 ?tC7 ?aC8 ?iC8 ?tC8 ?aC9 ?iC9 ?tC9 ?aC10 ?iC10 ?tC10 ?aC11 ?iC11 ?tC11 ?aC12 ?iC12 ?tC12 ?aC13 ?iC13 ?tC13 ?aC14 ?iC14 ?tC14 ?aC15 ?iC15 ?tC15 ?aC16 ?iC16 ?tC16 ?aC17 ?iC17 ?tC17 ?aC18 ?iC18 ?tC18 ?aC19 ?iC19 ?tC19 ?aC20 ?iC20 ?tC20 ?aC21 ?iC21 ?tC21 ?aC22 ?iC22 ?tC22 ?aC23 ?iC23 ?tC23 ?aC24 ?iC24 ?tC24 ?aC25 ?iC25 ?tC25 ?aC26 ?iC26 ?tC26 ?aC27 ?iC27 ?tC27 ?aGp ?iGp ?tGp ?bGp ?er_x1 ?er_k1 ?er_b1 ?er_v1 ?er_g1 ?er_s1 ?er_n1_0 ?er_n1_2 ?er_n1_3 ?er_n1_4 ?er_n1_5 ?er_n1_6 ?er_n1_7 ?er_n1_8 ?er_n1_9 ?er_n1_10 ?er_n1_11 ?er_n1_12 ?er_n1_13 ?er_n1_14 ?er_n1_15 ?er_n1_16 ?er_n1_17 ?er_n1_18 ?er_n1_19 ?er_n1_20 ?er_n1_21 ?er_n1_22 ?er_n1_23 ?er_n1_24 ?er_n1_25 ?er_n1_26 ?er_n1_27 ?er_hg1 ?er_hk1 ?er_hd1 ?er_ha1 ?er_hm1 ?er_x10 ?er_k10 ?er_b10 ?er_v10 ?er_g10 ?er_s10 ?er_n10_0 ?er_n10_1 ?er_n10_2 ?er_n10_3 ?er_n10_4 ?er_n10_5 ?er_n10_6 ?er_n10_7 ?er_n10_8 ?er_n10_9 ?er_n10_11 ?er_n10_12 ?er_n10_13 ?er_n10_14 ?er_n10_15 ?er_n10_16 ?er_n10_17 ?er_n10_18 ?er_n10_19 ?er_n10_20 ?er_n10_21 ?er_n10_22 ?er_n10_23 ?er_n10_24 ?er_n10_25 ?er_n10_26 ?er_n10_27 ?er_hg10 ?er_hk10 ?er_hd10 ?er_ha10 ?er_hm10 ?er_x12 ?er_k12 ?er_b12 ?er_v12 ?er_g12 ?er_s12 ?er_n12_0 ?er_n12_1 ?er_n12_2 ?er_n12_3 ?er_n12_4 ?er_n12_5 ?er_n12_6 ?er_n12_7 ?er_n12_8 ?er_n12_9 ?er_n12_10 ?er_n12_11 ?er_n12_13 ?er_n12_14 ?er_n12_15 ?er_n12_16 ?er_n12_17 ?er_n12_18 ?er_n12_19 ?er_n12_20 ?er_n12_21 ?er_n12_22 ?er_n12_23 ?er_n12_24 ?er_n12_25 ?er_n12_26 ?er_n12_27 ?er_hg12 ?er_hk12 ?er_hd12 ?er_ha12 ?er_hm12 ?hnX ?htX ?eL0 ?lL0 ?pL0 ?tL0 ?oL0 ?rL0 ?eL1 ?lL1 ?pL1 ?tL1 ?oL1 ?rL1 ?eL2 ?lL2 ?pL2 ?tL2 ?oL2 ?rL2 ?dL01 ?dL02 ?dL12
    (case ad0 => as_aux_lemma => k_is)
    (case ld0 => as_aux_lemma => k_is)
    (case cd0 => as_aux_lemma => k_is)
    (case kd0 => as_aux_lemma => k_is)
    (case ad1 => as_aux_lemma => k_is)
    (case ld1 => as_aux_lemma => k_is)
    (case cd1 => as_aux_lemma => k_is)
    (case kd1 => as_aux_lemma => k_is)
    (case ad2 => as_aux_lemma => k_is)
    (case ld2 => as_aux_lemma => k_is)
    (case cd2 => as_aux_lemma => k_is)
    (case kd2 => as_aux_lemma => k_is)
    (case ad3 => as_aux_lemma => k_is)
    (case ld3 => as_aux_lemma => k_is)
    (case cd3 => as_aux_lemma => k_is)
    (case kd3 => as_aux_lemma => k_is)
    (case ad4 => as_aux_lemma => k_is)
    (case ld4 => as_aux_lemma => k_is)
    (case cd4 => as_aux_lemma => k_is)
    (case kd4 => as_aux_lemma => k_is)
    (case ad5 => as_aux_lemma => k_is)
    (case ld5 => as_aux_lemma => k_is)
    (case cd5 => as_aux_lemma => k_is)
    (case kd5 => as_aux_lemma => k_is)
    (case ad6 => as_aux_lemma => k_is)
    (case ld6 => as_aux_lemma => k_is)
    (case cd6 => as_aux_lemma => k_is)
    (case kd6 => as_aux_lemma => k_is)
    (case ad7 => as_aux_lemma => k_is)
    (case ld7 => as_aux_lemma => k_is)
    (case cd7 => as_aux_lemma => k_is)
    (case kd7 => as_aux_lemma => k_is)
    (case ad8 => as_aux_lemma => k_is)
    (case ld8 => as_aux_lemma => k_is)
    (case cd8 => as_aux_lemma => k_is)
    (case kd8 => as_aux_lemma => k_is)
    (case ad9 => as_aux_lemma => k_is)
    (case ld9 => as_aux_lemma => k_is)
    (case cd9 => as_aux_lemma => k_is)
    (case kd9 => as_aux_lemma => k_is)
    (case ad10 => as_aux_lemma => k_is)
    (case ld10 => as_aux_lemma => k_is)
    (case cd10 => as_aux_lemma => k_is)
    (case kd10 => as_aux_lemma => k_is)
    (case ad11 => as_aux_lemma => k_is)
    (case ld11 => as_aux_lemma => k_is)
    (case cd11 => as_aux_lemma => k_is)
    (case kd11 => as_aux_lemma => k_is)
    (case ad12 => as_aux_lemma => k_is)
    (case ld12 => as_aux_lemma => k_is)
    (case cd12 => as_aux_lemma => k_is)
    (case kd12 => as_aux_lemma => k_is)
    (case ad13 => as_aux_lemma => k_is)
    (case ld13 => as_aux_lemma => k_is)
    (case cd13 => as_aux_lemma => k_is)
    (case kd13 => as_aux_lemma => k_is)
    (case ad14 => as_aux_lemma => k_is)
    (case ld14 => as_aux_lemma => k_is)
    (case cd14 => as_aux_lemma => k_is)
    (case kd14 => as_aux_lemma => k_is)
    (case ad15 => as_aux_lemma => k_is)
    (case ld15 => as_aux_lemma => k_is)
    (case cd15 => as_aux_lemma => k_is)
    (case kd15 => as_aux_lemma => k_is)
    (case ad16 => as_aux_lemma => k_is)
    (case ld16 => as_aux_lemma => k_is)
    (case cd16 => as_aux_lemma => k_is)
    (case kd16 => as_aux_lemma => k_is)
    (case ad17 => as_aux_lemma => k_is)
    (case ld17 => as_aux_lemma => k_is)
    (case cd17 => as_aux_lemma => k_is)
    (case kd17 => as_aux_lemma => k_is)
    (case ad18 => as_aux_lemma => k_is)
    (case ld18 => as_aux_lemma => k_is)
    (case cd18 => as_aux_lemma => k_is)
    (case kd18 => as_aux_lemma => k_is)
    (case ad19 => as_aux_lemma => k_is)
    (case ld19 => as_aux_lemma => k_is)
    (case cd19 => as_aux_lemma => k_is)
    (case kd19 => as_aux_lemma => k_is)
    (case ad20 => as_aux_lemma => k_is)
    (case ld20 => as_aux_lemma => k_is)
    (case cd20 => as_aux_lemma => k_is)
    (case kd20 => as_aux_lemma => k_is)
    (case ad21 => as_aux_lemma => k_is)
    (case ld21 => as_aux_lemma => k_is)
    (case cd21 => as_aux_lemma => k_is)
    (case kd21 => as_aux_lemma => k_is)
    (case ad22 => as_aux_lemma => k_is)
    (case ld22 => as_aux_lemma => k_is)
    (case cd22 => as_aux_lemma => k_is)
    (case kd22 => as_aux_lemma => k_is)
    (case ad23 => as_aux_lemma => k_is)
    (case ld23 => as_aux_lemma => k_is)
    (case cd23 => as_aux_lemma => k_is)
    (case kd23 => as_aux_lemma => k_is)
    (case ad24 => as_aux_lemma => k_is)
    (case ld24 => as_aux_lemma => k_is)
    (case cd24 => as_aux_lemma => k_is)
    (case kd24 => as_aux_lemma => k_is)
    (case ad25 => as_aux_lemma => k_is)
    (case ld25 => as_aux_lemma => k_is)
    (case cd25 => as_aux_lemma => k_is)
    (case kd25 => as_aux_lemma => k_is)
    (case ad26 => as_aux_lemma => k_is)
    (case ld26 => as_aux_lemma => k_is)
    (case cd26 => as_aux_lemma => k_is)
    (case kd26 => as_aux_lemma => k_is)
    (case ad27 => as_aux_lemma => k_is)
    (case ld27 => as_aux_lemma => k_is)
    (case cd27 => as_aux_lemma => k_is)
    (case kd27 => as_aux_lemma => k_is)
    (case ad28 => as_aux_lemma => k_is)
    (case ld28 => as_aux_lemma => k_is)
    (case cd28 => as_aux_lemma => k_is)
    (case kd28 => as_aux_lemma => k_is)
    (case ad29 => as_aux_lemma => k_is)
    (case ld29 => as_aux_lemma => k_is)
    (case cd29 => as_aux_lemma => k_is)
    (case kd29 => as_aux_lemma => k_is)
    (case ad30 => as_aux_lemma => k_is)
    (case ld30 => as_aux_lemma => k_is)
    (case cd30 => as_aux_lemma => k_is)
    (case kd30 => as_aux_lemma => k_is)
    (case ad31 => as_aux_lemma => k_is)
    (case ld31 => as_aux_lemma => k_is)
    (case cd31 => as_aux_lemma => k_is)
    (case kd31 => as_aux_lemma => k_is)
    (case ad32 => as_aux_lemma => k_is)
    (case ld32 => as_aux_lemma => k_is)
    (case cd32 => as_aux_lemma => k_is)
    (case kd32 => as_aux_lemma => k_is)
    (case ad33 => as_aux_lemma => k_is)
    (case ld33 => as_aux_lemma => k_is)
    (case cd33 => as_aux_lemma => k_is)
    (case kd33 => as_aux_lemma => k_is)
    (case ad34 => as_aux_lemma => k_is)
    (case ld34 => as_aux_lemma => k_is)
    (case cd34 => as_aux_lemma => k_is)
    (case kd34 => as_aux_lemma => k_is)
    (case ad35 => as_aux_lemma => k_is)
    (case ld35 => as_aux_lemma => k_is)
    (case cd35 => as_aux_lemma => k_is)
    (case kd35 => as_aux_lemma => k_is)
    (case ad36 => as_aux_lemma => k_is)
    (case ld36 => as_aux_lemma => k_is)
    (case cd36 => as_aux_lemma => k_is)
    (case kd36 => as_aux_lemma => k_is)
    (case ad37 => as_aux_lemma => k_is)
    (case ld37 => as_aux_lemma => k_is)
    (case cd37 => as_aux_lemma => k_is)
    (case kd37 => as_aux_lemma => k_is)
    (case ad38 => as_aux_lemma => k_is)
    (case ld38 => as_aux_lemma => k_is)
    (case cd38 => as_aux_lemma => k_is)
    (case kd38 => as_aux_lemma => k_is)
    (case ad39 => as_aux_lemma => k_is)
    (case ld39 => as_aux_lemma => k_is)
    (case cd39 => as_aux_lemma => k_is)
    (case kd39 => as_aux_lemma => k_is)
    (case ad40 => as_aux_lemma => k_is)
    (case ld40 => as_aux_lemma => k_is)
    (case cd40 => as_aux_lemma => k_is)
    (case kd40 => as_aux_lemma => k_is)
    (case ad41 => as_aux_lemma => k_is)
    (case ld41 => as_aux_lemma => k_is)
    (case cd41 => as_aux_lemma => k_is)
    (case kd41 => as_aux_lemma => k_is)
    (case aC => as_aux_lemma => k_is)
    (case am0 => as_aux_lemma => k_is)
    (case im0 => as_aux_lemma => k_is)
    (case lm0 => as_aux_lemma => k_is)
    (case cm0 => as_aux_lemma => k_is)
    (case km0 => as_aux_lemma => k_is)
    (case am1 => as_aux_lemma => k_is)
    (case im1 => as_aux_lemma => k_is)
    (case lm1 => as_aux_lemma => k_is)
    (case cm1 => as_aux_lemma => k_is)
    (case km1 => as_aux_lemma => k_is)
    (case am2 => as_aux_lemma => k_is)
    (case im2 => as_aux_lemma => k_is)
    (case lm2 => as_aux_lemma => k_is)
    (case cm2 => as_aux_lemma => k_is)
    (case km2 => as_aux_lemma => k_is)
    (case am3 => as_aux_lemma => k_is)
    (case im3 => as_aux_lemma => k_is)
    (case lm3 => as_aux_lemma => k_is)
    (case cm3 => as_aux_lemma => k_is)
    (case km3 => as_aux_lemma => k_is)
    (case am4 => as_aux_lemma => k_is)
    (case im4 => as_aux_lemma => k_is)
    (case lm4 => as_aux_lemma => k_is)
    (case cm4 => as_aux_lemma => k_is)
    (case km4 => as_aux_lemma => k_is)
    (case am5 => as_aux_lemma => k_is)
    (case im5 => as_aux_lemma => k_is)
    (case lm5 => as_aux_lemma => k_is)
    (case cm5 => as_aux_lemma => k_is)
    (case km5 => as_aux_lemma => k_is)
    (case am6 => as_aux_lemma => k_is)
    (case im6 => as_aux_lemma => k_is)
    (case lm6 => as_aux_lemma => k_is)
    (case cm6 => as_aux_lemma => k_is)
    (case km6 => as_aux_lemma => k_is)
    (case am7 => as_aux_lemma => k_is)
    (case im7 => as_aux_lemma => k_is)
    (case lm7 => as_aux_lemma => k_is)
    (case cm7 => as_aux_lemma => k_is)
    (case km7 => as_aux_lemma => k_is)
    (case am8 => as_aux_lemma => k_is)
    (case im8 => as_aux_lemma => k_is)
    (case lm8 => as_aux_lemma => k_is)
    (case cm8 => as_aux_lemma => k_is)
    (case km8 => as_aux_lemma => k_is)
    (case ap0 => as_aux_lemma => k_is)
    (case gp0 => as_aux_lemma => k_is)
    (case tp0 => as_aux_lemma => k_is)
    (case rp0 => as_aux_lemma => k_is)
    (case lp0 => as_aux_lemma => k_is)
    (case cp0 => as_aux_lemma => k_is)
    (case kp0 => as_aux_lemma => k_is)
    (case pg => as_aux_lemma => k_is)
    (case hd => as_aux_lemma => k_is)
    (case po => as_aux_lemma => k_is)
    (case sa => as_aux_lemma => k_is)
    (case mk => as_aux_lemma => k_is)
    (case kc => as_aux_lemma => k_is)
    (case nW => as_aux_lemma => k_is)
    (case nB => as_aux_lemma => k_is)
    (case nR => as_aux_lemma => k_is)
    (case ha => as_aux_lemma => k_is)
    (case hn => as_aux_lemma => k_is)
    (case ht => as_aux_lemma => k_is)
    (case hm => as_aux_lemma => k_is)
    (case sf => as_aux_lemma => k_is)
    (case rs => as_aux_lemma => k_is)
    (case is1 => as_aux_lemma => k_is)
    (case ir1 => as_aux_lemma => k_is)
    (case nsub => as_aux_lemma => k_is)
    (case ne => as_aux_lemma => k_is)
    (case ob => as_aux_lemma => k_is)
    (case fi => as_aux_lemma => k_is)
    (case fg => as_aux_lemma => k_is)
    (case ug => as_aux_lemma => k_is)
    (case iCl => as_aux_lemma => k_is)
    (case tCl => as_aux_lemma => k_is)
    (case ns_NoneType => as_aux_lemma => k_is)
    (case ns_bool => as_aux_lemma => k_is)
    (case ns_int => as_aux_lemma => k_is)
    (case ns_str => as_aux_lemma => k_is)
    (case ns_list => as_aux_lemma => k_is)
    (case ns_tuple => as_aux_lemma => k_is)
    (case ns_dict => as_aux_lemma => k_is)
    (case z_isinstance => as_aux_lemma => k_is)
    (case z_int => as_aux_lemma => k_is)
    (case z_bool => as_aux_lemma => k_is)
    (case z_tuple => as_aux_lemma => k_is)
    (case z_len => as_aux_lemma => k_is)
    (case z_all => as_aux_lemma => k_is)
    (case z_any => as_aux_lemma => k_is)
    (case z_zip => as_aux_lemma => k_is)
    (case z_range => as_aux_lemma => k_is)
    (case z_max => as_aux_lemma => k_is)
    (case z_sum => as_aux_lemma => k_is)
    (case z_list => as_aux_lemma => k_is)
    (case z_str => as_aux_lemma => k_is)
    (case z_repr => as_aux_lemma => k_is)
    (case z_ValueError => as_aux_lemma => k_is)
    (case u_NOWHERE => as_aux_lemma => k_is)
    (case u_STATIONS => as_aux_lemma => k_is)
    (case u_MOST_ITEMS => as_aux_lemma => k_is)
    (case u_MOST_WORKS => as_aux_lemma => k_is)
    (case u_NOTHING => as_aux_lemma => k_is)
    (case u_MOST_WORTH => as_aux_lemma => k_is)
    (case aC0 => as_aux_lemma => k_is)
    (case iC0 => as_aux_lemma => k_is)
    (case tC0 => as_aux_lemma => k_is)
    (case aC1 => as_aux_lemma => k_is)
    (case iC1 => as_aux_lemma => k_is)
    (case tC1 => as_aux_lemma => k_is)
    (case aC2 => as_aux_lemma => k_is)
    (case iC2 => as_aux_lemma => k_is)
    (case tC2 => as_aux_lemma => k_is)
    (case aC3 => as_aux_lemma => k_is)
    (case iC3 => as_aux_lemma => k_is)
    (case tC3 => as_aux_lemma => k_is)
    (case aC4 => as_aux_lemma => k_is)
    (case iC4 => as_aux_lemma => k_is)
    (case tC4 => as_aux_lemma => k_is)
    (case aC5 => as_aux_lemma => k_is)
    (case iC5 => as_aux_lemma => k_is)
    (case tC5 => as_aux_lemma => k_is)
    (case aC6 => as_aux_lemma => k_is)
    (case iC6 => as_aux_lemma => k_is)
    (case tC6 => as_aux_lemma => k_is)
    (case aC7 => as_aux_lemma => k_is)
    (case iC7 => as_aux_lemma => k_is)
    (case tC7 => as_aux_lemma => k_is)
    (case aC8 => as_aux_lemma => k_is)
    (case iC8 => as_aux_lemma => k_is)
    (case tC8 => as_aux_lemma => k_is)
    (case aC9 => as_aux_lemma => k_is)
    (case iC9 => as_aux_lemma => k_is)
    (case tC9 => as_aux_lemma => k_is)
    (case aC10 => as_aux_lemma => k_is)
    (case iC10 => as_aux_lemma => k_is)
    (case tC10 => as_aux_lemma => k_is)
    (case aC11 => as_aux_lemma => k_is)
    (case iC11 => as_aux_lemma => k_is)
    (case tC11 => as_aux_lemma => k_is)
    (case aC12 => as_aux_lemma => k_is)
    (case iC12 => as_aux_lemma => k_is)
    (case tC12 => as_aux_lemma => k_is)
    (case aC13 => as_aux_lemma => k_is)
    (case iC13 => as_aux_lemma => k_is)
    (case tC13 => as_aux_lemma => k_is)
    (case aC14 => as_aux_lemma => k_is)
    (case iC14 => as_aux_lemma => k_is)
    (case tC14 => as_aux_lemma => k_is)
    (case aC15 => as_aux_lemma => k_is)
    (case iC15 => as_aux_lemma => k_is)
    (case tC15 => as_aux_lemma => k_is)
    (case aC16 => as_aux_lemma => k_is)
    (case iC16 => as_aux_lemma => k_is)
    (case tC16 => as_aux_lemma => k_is)
    (case aC17 => as_aux_lemma => k_is)
    (case iC17 => as_aux_lemma => k_is)
    (case tC17 => as_aux_lemma => k_is)
    (case aC18 => as_aux_lemma => k_is)
    (case iC18 => as_aux_lemma => k_is)
    (case tC18 => as_aux_lemma => k_is)
    (case aC19 => as_aux_lemma => k_is)
    (case iC19 => as_aux_lemma => k_is)
    (case tC19 => as_aux_lemma => k_is)
    (case aC20 => as_aux_lemma => k_is)
    (case iC20 => as_aux_lemma => k_is)
    (case tC20 => as_aux_lemma => k_is)
    (case aC21 => as_aux_lemma => k_is)
    (case iC21 => as_aux_lemma => k_is)
    (case tC21 => as_aux_lemma => k_is)
    (case aC22 => as_aux_lemma => k_is)
    (case iC22 => as_aux_lemma => k_is)
    (case tC22 => as_aux_lemma => k_is)
    (case aC23 => as_aux_lemma => k_is)
    (case iC23 => as_aux_lemma => k_is)
    (case tC23 => as_aux_lemma => k_is)
    (case aC24 => as_aux_lemma => k_is)
    (case iC24 => as_aux_lemma => k_is)
    (case tC24 => as_aux_lemma => k_is)
    (case aC25 => as_aux_lemma => k_is)
    (case iC25 => as_aux_lemma => k_is)
    (case tC25 => as_aux_lemma => k_is)
    (case aC26 => as_aux_lemma => k_is)
    (case iC26 => as_aux_lemma => k_is)
    (case tC26 => as_aux_lemma => k_is)
    (case aC27 => as_aux_lemma => k_is)
    (case iC27 => as_aux_lemma => k_is)
    (case tC27 => as_aux_lemma => k_is)
    (case aGp => as_aux_lemma => k_is)
    (case iGp => as_aux_lemma => k_is)
    (case tGp => as_aux_lemma => k_is)
    (case bGp => as_aux_lemma => k_is)
    (case er_x1 => k_exc)
    (case er_k1 => as_aux_lemma => k_is)
    (case er_b1 => as_aux_lemma => k_is)
    (case er_v1 => as_aux_lemma => k_is)
    (case er_g1 => as_aux_lemma => k_is)
    (case er_s1 => first | rfl | k_is)
    (case er_n1_0 => as_aux_lemma => k_is)
    (case er_n1_2 => as_aux_lemma => k_is)
    (case er_n1_3 => as_aux_lemma => k_is)
    (case er_n1_4 => as_aux_lemma => k_is)
    (case er_n1_5 => as_aux_lemma => k_is)
    (case er_n1_6 => as_aux_lemma => k_is)
    (case er_n1_7 => as_aux_lemma => k_is)
    (case er_n1_8 => as_aux_lemma => k_is)
    (case er_n1_9 => as_aux_lemma => k_is)
    (case er_n1_10 => as_aux_lemma => k_is)
    (case er_n1_11 => as_aux_lemma => k_is)
    (case er_n1_12 => as_aux_lemma => k_is)
    (case er_n1_13 => as_aux_lemma => k_is)
    (case er_n1_14 => as_aux_lemma => k_is)
    (case er_n1_15 => as_aux_lemma => k_is)
    (case er_n1_16 => as_aux_lemma => k_is)
    (case er_n1_17 => as_aux_lemma => k_is)
    (case er_n1_18 => as_aux_lemma => k_is)
    (case er_n1_19 => as_aux_lemma => k_is)
    (case er_n1_20 => as_aux_lemma => k_is)
    (case er_n1_21 => as_aux_lemma => k_is)
    (case er_n1_22 => as_aux_lemma => k_is)
    (case er_n1_23 => as_aux_lemma => k_is)
    (case er_n1_24 => as_aux_lemma => k_is)
    (case er_n1_25 => as_aux_lemma => k_is)
    (case er_n1_26 => as_aux_lemma => k_is)
    (case er_n1_27 => as_aux_lemma => k_is)
    (case er_hg1 => as_aux_lemma => k_is)
    (case er_hk1 => as_aux_lemma => k_is)
    (case er_hd1 => as_aux_lemma => k_is)
    (case er_ha1 => as_aux_lemma => k_is)
    (case er_hm1 => as_aux_lemma => k_is)
    (case er_x10 => k_exc)
    (case er_k10 => as_aux_lemma => k_is)
    (case er_b10 => as_aux_lemma => k_is)
    (case er_v10 => as_aux_lemma => k_is)
    (case er_g10 => as_aux_lemma => k_is)
    (case er_s10 => first | rfl | k_is)
    (case er_n10_0 => as_aux_lemma => k_is)
    (case er_n10_1 => as_aux_lemma => k_is)
    (case er_n10_2 => as_aux_lemma => k_is)
    (case er_n10_3 => as_aux_lemma => k_is)
    (case er_n10_4 => as_aux_lemma => k_is)
    (case er_n10_5 => as_aux_lemma => k_is)
    (case er_n10_6 => as_aux_lemma => k_is)
    (case er_n10_7 => as_aux_lemma => k_is)
    (case er_n10_8 => as_aux_lemma => k_is)
    (case er_n10_9 => as_aux_lemma => k_is)
    (case er_n10_11 => as_aux_lemma => k_is)
    (case er_n10_12 => as_aux_lemma => k_is)
    (case er_n10_13 => as_aux_lemma => k_is)
    (case er_n10_14 => as_aux_lemma => k_is)
    (case er_n10_15 => as_aux_lemma => k_is)
    (case er_n10_16 => as_aux_lemma => k_is)
    (case er_n10_17 => as_aux_lemma => k_is)
    (case er_n10_18 => as_aux_lemma => k_is)
    (case er_n10_19 => as_aux_lemma => k_is)
    (case er_n10_20 => as_aux_lemma => k_is)
    (case er_n10_21 => as_aux_lemma => k_is)
    (case er_n10_22 => as_aux_lemma => k_is)
    (case er_n10_23 => as_aux_lemma => k_is)
    (case er_n10_24 => as_aux_lemma => k_is)
    (case er_n10_25 => as_aux_lemma => k_is)
    (case er_n10_26 => as_aux_lemma => k_is)
    (case er_n10_27 => as_aux_lemma => k_is)
    (case er_hg10 => as_aux_lemma => k_is)
    (case er_hk10 => as_aux_lemma => k_is)
    (case er_hd10 => as_aux_lemma => k_is)
    (case er_ha10 => as_aux_lemma => k_is)
    (case er_hm10 => as_aux_lemma => k_is)
    (case er_x12 => k_exc)
    (case er_k12 => as_aux_lemma => k_is)
    (case er_b12 => as_aux_lemma => k_is)
    (case er_v12 => as_aux_lemma => k_is)
    (case er_g12 => as_aux_lemma => k_is)
    (case er_s12 => first | rfl | k_is)
    (case er_n12_0 => as_aux_lemma => k_is)
    (case er_n12_1 => as_aux_lemma => k_is)
    (case er_n12_2 => as_aux_lemma => k_is)
    (case er_n12_3 => as_aux_lemma => k_is)
    (case er_n12_4 => as_aux_lemma => k_is)
    (case er_n12_5 => as_aux_lemma => k_is)
    (case er_n12_6 => as_aux_lemma => k_is)
    (case er_n12_7 => as_aux_lemma => k_is)
    (case er_n12_8 => as_aux_lemma => k_is)
    (case er_n12_9 => as_aux_lemma => k_is)
    (case er_n12_10 => as_aux_lemma => k_is)
    (case er_n12_11 => as_aux_lemma => k_is)
    (case er_n12_13 => as_aux_lemma => k_is)
    (case er_n12_14 => as_aux_lemma => k_is)
    (case er_n12_15 => as_aux_lemma => k_is)
    (case er_n12_16 => as_aux_lemma => k_is)
    (case er_n12_17 => as_aux_lemma => k_is)
    (case er_n12_18 => as_aux_lemma => k_is)
    (case er_n12_19 => as_aux_lemma => k_is)
    (case er_n12_20 => as_aux_lemma => k_is)
    (case er_n12_21 => as_aux_lemma => k_is)
    (case er_n12_22 => as_aux_lemma => k_is)
    (case er_n12_23 => as_aux_lemma => k_is)
    (case er_n12_24 => as_aux_lemma => k_is)
    (case er_n12_25 => as_aux_lemma => k_is)
    (case er_n12_26 => as_aux_lemma => k_is)
    (case er_n12_27 => as_aux_lemma => k_is)
    (case er_hg12 => as_aux_lemma => k_is)
    (case er_hk12 => as_aux_lemma => k_is)
    (case er_hd12 => as_aux_lemma => k_is)
    (case er_ha12 => as_aux_lemma => k_is)
    (case er_hm12 => as_aux_lemma => k_is)
    (case hnX => as_aux_lemma => k_is)
    (case htX => as_aux_lemma => k_is)
    (case eL0 => rfl)
    (case lL0 => as_aux_lemma => k_is)
    (case pL0 => rfl)
    (case tL0 => kernel_rfl)
    (case oL0 => kernel_rfl)
    (case rL0 => exact ⟨_, rfl⟩)
    (case eL1 => rfl)
    (case lL1 => as_aux_lemma => k_is)
    (case pL1 => rfl)
    (case tL1 => kernel_rfl)
    (case oL1 => kernel_rfl)
    (case rL1 => exact ⟨_, rfl⟩)
    (case eL2 => rfl)
    (case lL2 => as_aux_lemma => k_is)
    (case pL2 => rfl)
    (case tL2 => kernel_rfl)
    (case oL2 => kernel_rfl)
    (case rL2 => exact ⟨_, rfl⟩)
    (case dL01 => decide)
    (case dL02 => decide)
    (case dL12 => decide)
