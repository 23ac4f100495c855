import PyProof.Rows.All
import KE.OsRunLaw
import PySem.Challenge.RW_startgaps_k62_texts_by_hand
import HandS.ForMost
import HandS.IsInst
import HandS.TupMul
import HandS.TupAny
import HandS.Walk
import HandS.Zip
import PyProof.ReprRoads
import PyProof.ReprBulk
import KE.GoesMore
import PyProof.EnumMake
import HandS.Star
import HandS.Property
import HandS.SortKw
import KE.KOpsOwn
import KE.DataMinMax
import PyProof.InstNe
import HandS.Style
import HandS.DictTup
import PyProof.DictMoreH
import HandS.Iter
import PyProof.Rows.RowBridgeK
import HandS.Wide
import PyProof.Rows.ReprShort
import PyProof.ReprLen
import HandS.Conv
import HandS.TupSets
import PyProof.P3Statements
import HandS.SetFor
import HandS.Strs
import HandS.Dict
import HandS.More
import HandS.Deep
import KE.KDictKeyed
import KE.SortKeyHeap
import HandS.EndTab
import KE.KNest
import PyProof.CallFns
import PyProof.StrOps2
import HandS.HotCalls
import HandS.ExcIs
import HandS.ExcOwn
import HandS.WordsExc
import KE.KTryMore
import HandS.Comp
import HandS.Exc
import KE.GoesComp
import KE.GoesRaise
import HandS.FStr
import HandS.Text
import PyProof.ReprNest
import PyProof.StrLawsChain
set_option Elab.async false
set_option linter.all false
set_option maxRecDepth 100000
section
def Sg.cutAt : Nat → List Nat → List PySem.Stmt → List PySem.Stmt
  | _, _, [] => []
  | i, ds, x :: xs => if ds.contains i then Sg.cutAt (i + 1) ds xs else x :: Sg.cutAt (i + 1) ds xs
def Sg.view : PySem.Program := { PySem.Challenge.rw_startgaps_k62_texts_by_hand.row.prog with main := { (PySem.Challenge.rw_startgaps_k62_texts_by_hand.row.prog).main with body := Sg.cutAt 0 [1, 31, 34, 42, 49, 55, 58, 76] (PySem.Challenge.rw_startgaps_k62_texts_by_hand.row.prog).main.body } }
abbrev Sg.loose : List PySem.Str := [PySem.Str.ofString "Line"]
open PySem PySem.W PyProof.Rows
theorem Sg.map3 {α β γ δ : Type} {o : Option α} {f : α → β} {g : α → γ} {h : α → δ} {a : β} {b : γ} {c : δ} (h1 : o.map f = some a) (h2 : o.map g = some b) (h3 : o.map h = some c) : o.map (fun s => (f s, g s, h s)) = some (a, b, c) := by
  cases o with
  | none => cases h1
  | some x => cases h1; cases h2; cases h3; rfl
theorem Sg.map9 {α T1 T2 T3 T4 T5 T6 T7 T8 T9 : Type} {o : Option α} {f : α → T1 × T2 × T3 × T4 × T5 × T6 × T7 × T8 × T9} {a1 : T1} {a2 : T2} {a3 : T3} {a4 : T4} {a5 : T5} {a6 : T6} {a7 : T7} {a8 : T8} {a9 : T9} (h1 : o.map (fun x => (f x).1) = some a1) (h2 : o.map (fun x => (f x).2.1) = some a2) (h3 : o.map (fun x => (f x).2.2.1) = some a3) (h4 : o.map (fun x => (f x).2.2.2.1) = some a4) (h5 : o.map (fun x => (f x).2.2.2.2.1) = some a5) (h6 : o.map (fun x => (f x).2.2.2.2.2.1) = some a6) (h7 : o.map (fun x => (f x).2.2.2.2.2.2.1) = some a7) (h8 : o.map (fun x => (f x).2.2.2.2.2.2.2.1) = some a8) (h9 : o.map (fun x => (f x).2.2.2.2.2.2.2.2) = some a9) : o.map f = some (a1, a2, a3, a4, a5, a6, a7, a8, a9) := by
  cases o with
  | none => cases h1
  | some x =>
    have e := fun {β : Type} {u v : β} (h : some u = some v) => Option.some.inj h
    show some (f x) = _
    congr 1
    rw [← e h1, ← e h2, ← e h3, ← e h4, ← e h5, ← e h6, ← e h7, ← e h8, ← e h9]
theorem Sg.hA (w : PySem.World) (os : PySem.OsState) : Option.map (fun x => HeadRun.looksF PySem.Challenge.rw_startgaps_k62_texts_by_hand.row.prog (PySem.W.boot_heap w.params) x.abs) (HeadRun.endF (HeadRun.stepQ (HeadRun.denQ HeadRun.tabQ) PySem.Challenge.rw_startgaps_k62_texts_by_hand.row.prog w) 17190 PySem.Challenge.rw_startgaps_k62_texts_by_hand.row.prog w os) = some true := by kernel_rfl
theorem Sg.hB1 (w : PySem.World) (os : PySem.OsState) : Option.map (fun x => (HeadRun.seenQ Sg.view Sg.loose (PySem.importedModules PySem.Challenge.rw_startgaps_k62_texts_by_hand.row.prog.main.body) (fun s => PySem.W.xlAt Sg.view [] s && PySem.W.recOk PySem.Challenge.rw_startgaps_k62_texts_by_hand.row.records s) x.abs).1) (HeadRun.endF (HeadRun.stepQ (HeadRun.denQ HeadRun.tabQ) PySem.Challenge.rw_startgaps_k62_texts_by_hand.row.prog w) 17190 PySem.Challenge.rw_startgaps_k62_texts_by_hand.row.prog w os) = some (expectedOf Sg.view) := by kernel_rfl
theorem Sg.hB2 (w : PySem.World) (os : PySem.OsState) : Option.map (fun x => (HeadRun.seenQ Sg.view Sg.loose (PySem.importedModules PySem.Challenge.rw_startgaps_k62_texts_by_hand.row.prog.main.body) (fun s => PySem.W.xlAt Sg.view [] s && PySem.W.recOk PySem.Challenge.rw_startgaps_k62_texts_by_hand.row.records s) x.abs).2.1) (HeadRun.endF (HeadRun.stepQ (HeadRun.denQ HeadRun.tabQ) PySem.Challenge.rw_startgaps_k62_texts_by_hand.row.prog w) 17190 PySem.Challenge.rw_startgaps_k62_texts_by_hand.row.prog w os) = some (bltViewBooted) := by kernel_rfl
theorem Sg.hB3 (w : PySem.World) (os : PySem.OsState) : Option.map (fun x => (HeadRun.seenQ Sg.view Sg.loose (PySem.importedModules PySem.Challenge.rw_startgaps_k62_texts_by_hand.row.prog.main.body) (fun s => PySem.W.xlAt Sg.view [] s && PySem.W.recOk PySem.Challenge.rw_startgaps_k62_texts_by_hand.row.records s) x.abs).2.2.1) (HeadRun.endF (HeadRun.stepQ (HeadRun.denQ HeadRun.tabQ) PySem.Challenge.rw_startgaps_k62_texts_by_hand.row.prog w) 17190 PySem.Challenge.rw_startgaps_k62_texts_by_hand.row.prog w os) = some (true) := by kernel_rfl
theorem Sg.hB4 (w : PySem.World) (os : PySem.OsState) : Option.map (fun x => (HeadRun.seenQ Sg.view Sg.loose (PySem.importedModules PySem.Challenge.rw_startgaps_k62_texts_by_hand.row.prog.main.body) (fun s => PySem.W.xlAt Sg.view [] s && PySem.W.recOk PySem.Challenge.rw_startgaps_k62_texts_by_hand.row.records s) x.abs).2.2.2.1) (HeadRun.endF (HeadRun.stepQ (HeadRun.denQ HeadRun.tabQ) PySem.Challenge.rw_startgaps_k62_texts_by_hand.row.prog w) 17190 PySem.Challenge.rw_startgaps_k62_texts_by_hand.row.prog w os) = some (true) := by kernel_rfl
theorem Sg.hB5 (w : PySem.World) (os : PySem.OsState) : Option.map (fun x => (HeadRun.seenQ Sg.view Sg.loose (PySem.importedModules PySem.Challenge.rw_startgaps_k62_texts_by_hand.row.prog.main.body) (fun s => PySem.W.xlAt Sg.view [] s && PySem.W.recOk PySem.Challenge.rw_startgaps_k62_texts_by_hand.row.records s) x.abs).2.2.2.2.1) (HeadRun.endF (HeadRun.stepQ (HeadRun.denQ HeadRun.tabQ) PySem.Challenge.rw_startgaps_k62_texts_by_hand.row.prog w) 17190 PySem.Challenge.rw_startgaps_k62_texts_by_hand.row.prog w os) = some (pinGoodD (drecsOf Sg.view)) := by kernel_rfl
theorem Sg.hB6 (w : PySem.World) (os : PySem.OsState) : Option.map (fun x => (HeadRun.seenQ Sg.view Sg.loose (PySem.importedModules PySem.Challenge.rw_startgaps_k62_texts_by_hand.row.prog.main.body) (fun s => PySem.W.xlAt Sg.view [] s && PySem.W.recOk PySem.Challenge.rw_startgaps_k62_texts_by_hand.row.records s) x.abs).2.2.2.2.2.1) (HeadRun.endF (HeadRun.stepQ (HeadRun.denQ HeadRun.tabQ) PySem.Challenge.rw_startgaps_k62_texts_by_hand.row.prog w) 17190 PySem.Challenge.rw_startgaps_k62_texts_by_hand.row.prog w os) = some (plainGoodE Sg.view (looseW Sg.view Sg.loose)) := by kernel_rfl
theorem Sg.hB7 (w : PySem.World) (os : PySem.OsState) : Option.map (fun x => (HeadRun.seenQ Sg.view Sg.loose (PySem.importedModules PySem.Challenge.rw_startgaps_k62_texts_by_hand.row.prog.main.body) (fun s => PySem.W.xlAt Sg.view [] s && PySem.W.recOk PySem.Challenge.rw_startgaps_k62_texts_by_hand.row.records s) x.abs).2.2.2.2.2.2.1) (HeadRun.endF (HeadRun.stepQ (HeadRun.denQ HeadRun.tabQ) PySem.Challenge.rw_startgaps_k62_texts_by_hand.row.prog w) 17190 PySem.Challenge.rw_startgaps_k62_texts_by_hand.row.prog w os) = some (plainGoodD Sg.view Sg.loose) := by kernel_rfl
theorem Sg.hB8 (w : PySem.World) (os : PySem.OsState) : Option.map (fun x => (HeadRun.seenQ Sg.view Sg.loose (PySem.importedModules PySem.Challenge.rw_startgaps_k62_texts_by_hand.row.prog.main.body) (fun s => PySem.W.xlAt Sg.view [] s && PySem.W.recOk PySem.Challenge.rw_startgaps_k62_texts_by_hand.row.records s) x.abs).2.2.2.2.2.2.2.1) (HeadRun.endF (HeadRun.stepQ (HeadRun.denQ HeadRun.tabQ) PySem.Challenge.rw_startgaps_k62_texts_by_hand.row.prog w) 17190 PySem.Challenge.rw_startgaps_k62_texts_by_hand.row.prog w os) = some (wideGood Sg.view) := by kernel_rfl
theorem Sg.hB9 (w : PySem.World) (os : PySem.OsState) : Option.map (fun x => (HeadRun.seenQ Sg.view Sg.loose (PySem.importedModules PySem.Challenge.rw_startgaps_k62_texts_by_hand.row.prog.main.body) (fun s => PySem.W.xlAt Sg.view [] s && PySem.W.recOk PySem.Challenge.rw_startgaps_k62_texts_by_hand.row.records s) x.abs).2.2.2.2.2.2.2.2) (HeadRun.endF (HeadRun.stepQ (HeadRun.denQ HeadRun.tabQ) PySem.Challenge.rw_startgaps_k62_texts_by_hand.row.prog w) 17190 PySem.Challenge.rw_startgaps_k62_texts_by_hand.row.prog w os) = some (clsGoodW Sg.view Sg.loose) := by kernel_rfl
theorem Sg.carry {V : PySem.Program} (e : Sg.view = V) (w : PySem.World) (os : PySem.OsState) {as : List PySem.Addr} {c : List (Option PySem.Obj)} (hc : Option.map (fun x => List.map (HeadRun.getT x) as) (HeadRun.endF (HeadRun.stepQ (HeadRun.denQ HeadRun.tabQ) PySem.Challenge.rw_startgaps_k62_texts_by_hand.row.prog w) 17190 PySem.Challenge.rw_startgaps_k62_texts_by_hand.row.prog w os) = some c) :
    Option.map (fun x => (HeadRun.looksF PySem.Challenge.rw_startgaps_k62_texts_by_hand.row.prog (PySem.W.boot_heap w.params) x.abs, (HeadRun.seenQ V Sg.loose (PySem.importedModules PySem.Challenge.rw_startgaps_k62_texts_by_hand.row.prog.main.body) (fun s => PySem.W.xlAt V [] s && PySem.W.recOk PySem.Challenge.rw_startgaps_k62_texts_by_hand.row.records s) x.abs), List.map (HeadRun.getT x) as)) (HeadRun.endF (HeadRun.stepQ (HeadRun.denQ HeadRun.tabQ) PySem.Challenge.rw_startgaps_k62_texts_by_hand.row.prog w) 17190 PySem.Challenge.rw_startgaps_k62_texts_by_hand.row.prog w os) = some (true, openGood V Sg.loose, c) := by
  subst e
  have eo : openGood Sg.view Sg.loose = (expectedOf Sg.view, bltViewBooted, true, true, pinGoodD (drecsOf Sg.view), plainGoodE Sg.view (looseW Sg.view Sg.loose), plainGoodD Sg.view Sg.loose, wideGood Sg.view, clsGoodW Sg.view Sg.loose) := rfl
  with_reducible refine Sg.map3 ?_ ?_ ?_
  · with_reducible exact Sg.hA w os
  · rw [eo]
    with_reducible refine Sg.map9 ?_ ?_ ?_ ?_ ?_ ?_ ?_ ?_ ?_
    · with_reducible exact Sg.hB1 w os
    · with_reducible exact Sg.hB2 w os
    · with_reducible exact Sg.hB3 w os
    · with_reducible exact Sg.hB4 w os
    · with_reducible exact Sg.hB5 w os
    · with_reducible exact Sg.hB6 w os
    · with_reducible exact Sg.hB7 w os
    · with_reducible exact Sg.hB8 w os
    · with_reducible exact Sg.hB9 w os
  · with_reducible exact hc
end
set_option Elab.async false
set_option linter.all false
set_option maxRecDepth 100000
set_option maxHeartbeats 4000000
namespace Sg
open PySem PySem.Spec PyProof.Rows L2
/-! ## defs that may ask for a text of data: they run outside of every such text -/
/-- a promise that holds where no text of data is being made -/
structure FnG (P : Program) (w : World) (K : PySem.W.Frag) (mg : Str → Option Value) (base : Heap) (k : Nat) (f : Addr)
    (fd : FuncData) (ps : List Str) (sp : Sp) : Prop where
  arity : ∀ vs H Q, sp vs H Q E0 → vs.length = ps.length
  go : ∀ (A : Around) (outer : List Env) (s : Shared) (H : Hp) (args : Args) (us : List Value) (vs : List V) (Q : VK),
    A.guards = some [] → Room k A → Env0 P w K mg base A outer s H → BindsTo s fd args (ps.zip us) → Vals vs us →
    sp vs H Q E0 → codeAny (model P w) A (.call (.ref f) args) (CR CX0 outer P w H s Q E0) s
section
variable {P : Program} {w : World} {K : PySem.W.Frag} {mg : Str → Option Value} {base : Heap} {k : Nat} {f : Addr}
variable {fd : FuncData} {ps : List Str} {sp : Sp}
theorem FnG.of (F : FnOk P w K mg base CX0 k f fd ps sp) : FnG P w K mg base k f fd ps sp :=
  ⟨fun vs H Q h => F.len vs H Q E0 h, fun A outer s H args us vs Q _ hr e0 hb hv h =>
    F.run A outer s H args us vs Q E0 hr e0 hb hv h⟩
theorem FnG.mono {j : Nat} (F : FnG P w K mg base j f fd ps sp) (h : j ≤ k) : FnG P w K mg base k f fd ps sp :=
  ⟨F.arity, fun A outer s H args us vs Q hg hr => F.go A outer s H args us vs Q hg (hr.mono h)⟩
/-- a def's body, where no text of data is being made -/
theorem fnG_mk {x qual : Str} {st : Stmt} {N : List Str} (F : Fun K x qual st f fd)
    (S : FnScope N ps (defScope st)) (arity : ∀ vs H Q, sp vs H Q E0 → vs.length = ps.length)
    (hbody : ∀ (cdv : Value) (A : Around) (outer : List Env) (s : Shared) (H : Hp) (vs : List V) (Q : VK),
      (A.deeper (envOfC qual (defScope st) s.heap.objs.size f cdv)).guards = some [] →
      Room k (A.deeper (envOfC qual (defScope st) s.heap.objs.size f cdv)) → sp vs H Q E0 →
      ∃ t, PSs (cxOf CX0 P w K mg base N qual (defScope st) f cdv A outer s H E0).nox (defBody st) t ∧
        t { nx := fun _ H' => Q .non H', rt := Q } (start N vs) H) :
    FnG P w K mg base (k + 1) f fd ps sp := by
  obtain ⟨oc, od, kV, doc, pm, an, cdv, ct, osl, rfl, lk, hcd⟩ := F.ex
  refine ⟨arity, ?_⟩
  intro A outer s H args us vs Q hg hr e0 hb r hsp
  have hl := arity _ _ _ hsp
  have hk0 : ∀ b o, base.get? b = some o → s.heap.get? b = some o := fun b o e => (e0.bs b o e).1
  have KX : K.In s.heap := e0.mod.kin.keeps hk0
  have lim : s.heap.NoLimit := e0.mod.nolimit.keeps hk0
  refine codeAny_call_function hr.depth (KX _ _ lk) rfl S.co S.gen rfl (PySem.W.codeRec_of KX hcd) ?_
  refine hb _ _ _ _ (wpAny_newFunctionEnv_cells S.kind ?_ ?_)
  · rintro ⟨n, v⟩ hy
    have hn := S.par n (List.of_mem_zip hy).1
    cases hn with
    | inl q => exact .inl q
    | inr q => exact .inr ⟨q, PySem.W.cellsFrom_some _ _ _ (.inl q)⟩
  · intro env he s1 x
    subst he
    refine ⟨lim.keeps x.toInCall.keep, ?_⟩
    apply codeAny_func
    obtain ⟨t, ht, hq⟩ := hbody cdv A outer s H vs Q hg (hr.deeper _) hsp
    have ht' := ht.nox
    have I := inv_start (CX := CX0) (E := E0) (cd := cdv) (qual := qual) (f := f) S hr.hd e0 hl r x
    refine wpAny_mono (ht'.run [] s1 (start N vs) H _ I hq) ?_ (fun e s' hs => hs)
    intro fl s' hs
    cases fl with
    | ret u =>
      obtain ⟨v, σ', H', J, rv, q⟩ := hs
      exact ⟨v, H', J.os, J.bare, J.base, J.hok, rv, q⟩
    | next =>
      obtain ⟨σ', H', J, q⟩ := hs
      exact ⟨V.non, H', J.os, J.bare, J.base, J.hok, rfl, q⟩
    | brk => obtain ⟨_, _, _, q⟩ := hs; exact q.elim
    | cont => obtain ⟨_, _, _, q⟩ := hs; exact q.elim
end
section
variable {X : Cx} {k : Nat} {f : Addr} {fd : FuncData} {ps : List Str} {sp : Sp} {dvs : List V} {ds : List Value}
variable {x : Str} {p pos : Pos} {e : Expr} {es : List Expr} {t : TA}
/-- f(a, ..) of such a def -/
theorem pe_callG (F : FnG X.prog X.w X.K X.mg X.base k f fd ps sp) (hgd : X.A.guards = some []) (hr : Room k X.A)
    (hg : Gl X x) (hm : X.mg x = some (.ref f)) (hk : PySem.W.keepIn X.K (.ref f) = true) (hb : Binds X.K fd ps [])
    (ha : PA X (e :: es) t) (hdb : (x == ("__debug__" : Str)) = false := by decide)
    (he : starEach (e :: es) X.env = (false, eval e X.env) :: starEach es X.env := by rfl)
    (hpl : (backTo pos (starEach es X.env)).any (·.1) = false := by rfl) :
    PE X (.Call (.Name x p) (e :: es) [] pos) (tCall sp [] E0 t) := by
  constructor
  intro pins s σ H Q I h
  refine wpAny_Call_Name_kw (ld_glob I hg hm (PySem.W.callWith_K (h₀ := X.base) I.ok.mod.kin hk ?_ he hpl) hdb)
  refine thn (ha.run pos pins s σ H _ I h) ?_
  rintro us s1 ⟨vs, H1, I1, r, q⟩
  refine ⟨I1.kIn, ?_⟩
  rw [List.append_nil] at q
  have hl : (us ++ []).length = ps.length := by rw [List.append_nil, ← r.length]; exact F.arity _ _ _ q
  have hbb := hb s1 us I1.kIn hl
  rw [List.append_nil] at hbb
  refine wpAny_call (codeAny_mono (F.go X.A X.stack s1 H1 ⟨us, []⟩ us vs Q hgd hr I1.env0 hbb r q) ?_)
  intro r' s' hq
  match r', hq with
  | .error _, hq => exact hq.elim
  | .ok (.ret _), hq => exact I1.after hq
  | .ok .next, hq => exact hq.elim
  | .ok .brk, hq => exact hq.elim
  | .ok .cont, hq => exact hq.elim
/-! ## repr of data -/
/-- what may be shown: its ints are not too great, and the text is not too long -/
def Shows (d : PyData) : Prop := d.showable = true ∧ d.hasDict = false ∧ d.depth ≤ 40 ∧ d.shown.length ≤ sizeLine
theorem call_reprD {j : Nat} (hgd : X.A.guards = some []) (hr : Room j X.A) :
    CallR X (.builtin "repr") (fun xs H Q => ∃ a d, xs = [.ref a] ∧ Dp X.K H (.ref a) d ∧ Shows d ∧ Q (.str d.shown) H) := by
  intro pins s σ H xs us Q I r h
  obtain ⟨a, d, rfl, hd, ⟨h1, h2, h3, h4⟩, q⟩ := h
  obtain ⟨u, rfl, rfl⟩ := vals1 r
  obtain ⟨as, rd⟩ := Dp.reads I d (.ref a) (.ref a) hd rfl
  have hu := hr.units
  refine repr_of_reads' (h₀ := s.heap) rd h1 (fun z => ?_) hgd (by omega) (fun _ _ z => z) (fun h' u tk hk => ?_) h4
  · rw [h2] at z; cases z
  · exact ⟨.str d.shown, H, I.kept hk, ⟨u, rfl⟩, q⟩
end
end Sg
set_option Elab.async false
set_option linter.all false
set_option maxRecDepth 100000
set_option maxHeartbeats 4000000
namespace Sg
open PySem PySem.Spec PyProof.Rows L2
/-! ## the law's own call -/
section
variable {P : Program} {w : World} {K : PySem.W.Frag} {mg mb : Str → Option Value} {k : Nat} {fa a : Addr}
variable {fd : FuncData} {x : Str} {sp : Sp} {s₁ : Shared} {vs : List Value} {ns : List Int}
/-- what is asked of the law's call -/
abbrev Ended (s₁ : Shared) : Result → Shared → Prop := fun r s' =>
  r = .ok (.ret (.bool true)) ∧ OldK s₁.heap s'.heap ∧ s'.os = s₁.os ∧ AllBare s'.gens
end
end Sg
set_option Elab.async false
set_option linter.all false
set_option maxRecDepth 100000
set_option maxHeartbeats 4000000
namespace PySem
open Sem (wp)
open AutoSeq1 (wpAny_loadPart')
end PySem
set_option Elab.async false
set_option linter.all false
set_option maxRecDepth 100000
set_option maxHeartbeats 4000000
namespace Sg
open PySem PySem.Spec PyProof.Rows L2
/-! ## [c for a in t for b in a for c in b], tuples all the way down -/
/-- slots that agree but for those of ws -/
def Ag (ws : List Nat) (σ σ' : L2.St) : Prop := σ'.length = σ.length ∧ ∀ j, j ∉ ws → σ'[j]? = σ[j]?
theorem Ag.refl (ws : List Nat) (σ : L2.St) : Ag ws σ σ := ⟨rfl, fun _ _ => rfl⟩
theorem Ag.trans {ws : List Nat} {a b c : L2.St} (h : Ag ws a b) (k : Ag ws b c) : Ag ws a c := ⟨k.1.trans h.1, fun j hj => (k.2 j hj).trans (h.2 j hj)⟩
theorem Ag.set {ws : List Nat} {σ : L2.St} {k : Nat} {v : Option V} (hk : k ∈ ws) : Ag ws σ (σ.set k v) := ⟨List.length_set, fun j hj => by
  rw [List.getElem?_set_ne]
  rintro rfl
  exact hj hk⟩
theorem Ag.mono {ws us : List Nat} {σ σ' : L2.St} (h : Ag ws σ σ') (k : ∀ j ∈ ws, j ∈ us) : Ag us σ σ' := ⟨h.1, fun j hj => h.2 j fun z => hj (k j z)⟩
/-- a turn of a loop of a comprehension without tests -/
def flatTurn (e : Expr) (d : Nat) (it D : Addr) (n : Str) (p pos : Pos) (bd : Sem Fin → Sem Fin) (env : Env) : Sem Fin :=
  standAt pos >>= fun _ => pyNext (.ref it) >>= fun r => match r with
    | none => pure (.done .next)
    | some v => letOwnedTupleGo (.Name n p) (.ref it) v >>= fun _ => assign (.Name n p) env v >>= fun _ =>
      bd (again (.compLoop e d (.ref it) (.ref D) env))
section
variable {Z : Cx} {elt : Expr} {gens : List Comprehension} {scope : Scope} {cpos p pos : Pos} {d k : Nat} {it D c : Addr} {n : Str} {bd : Sem Fin → Sem Fin}
variable {R : Result → Shared → Prop} {xs : List V} {pins : List (Addr × Obj)} {ws : List Nat}
theorem flat_loop (hxe : Z.xe = fun _ _ => False) (hcalm : Z.calm = true) (hN : Z.N.Nodup)
    (hturn : compTurn (.ListComp elt gens scope cpos) d (.ref it) (.ref D) Z.env = flatTurn (.ListComp elt gens scope cpos) d it D n p pos bd Z.env)
    (hk : Z.N[k]? = some n) (hloc : Loc Z.env.scope n) (hfn : Z.fn n = true ∨ Z.env.scope.names.lookup n = some .local) (hkw : k ∈ ws)
    (σ : L2.St) (G : Nat → Hp → Prop) (hG : ∀ i H, i ≤ xs.length → G i H → SqT Z.K H c xs) (hfp : ∀ H, H it = none → FpOk Z pins H it)
    (hbd : ∀ i x s σ' H, xs[i]? = some x → G i H → H it = none → Inv Z (pins ++ pinsAt [it] s.heap) σ' H s → σ'[k]? = some (some x) → Ag ws σ σ' →
      ∀ (kk : Sem Fin) (Qf : Fin → Shared → Prop) (Ef : Value → Shared → Prop),
        (∀ s' σ'' H', Inv Z (pins ++ pinsAt [it] s.heap) σ'' H' s' → Ag ws σ σ'' → G (i + 1) H' → wpAny (model Z.prog Z.w) Z.A kk Qf Ef s') → wpAny (model Z.prog Z.w) Z.A (bd kk) Qf Ef s)
    (hfin : ∀ s' σ' H', Inv Z pins σ' H' s' → Ag ws σ σ' → G xs.length H' → R (.ok .next) s')
    {s : Shared} {σ₀ : L2.St} {H₀ : Hp} (I₀ : Inv Z pins σ₀ H₀ s) (ag₀ : Ag ws σ σ₀) (g₀ : G 0 H₀) (n₀ : H₀ it = none) (st₀ : s.heap.IsTupleIter it c 0) :
    codeAny (model Z.prog Z.w) Z.A (.compLoop (.ListComp elt gens scope cpos) d (.ref it) (.ref D) Z.env) R s := by
  have T := turn_tuple (P := Z.prog) (w := Z.w) (K := Z.K) (tg := .Name n p) c it
  have hb1 : ∀ {H : Hp}, H it = none → ∀ b ∈ [it], FpOk Z pins H b := by
    intro H hn b hb
    rw [List.mem_singleton.mp hb]
    exact hfp H hn
  refine codeAny_loop rfl (fun m s' => ∃ i σ' H', Inv Z pins σ' H' s' ∧ Ag ws σ σ' ∧ G i H' ∧ H' it = none ∧ s'.heap.IsTupleIter it c i ∧ i ≤ xs.length ∧ m = xs.length - i) ?_ xs.length
    ⟨0, σ₀, H₀, I₀, ag₀, g₀, n₀, st₀, Nat.zero_le _, rfl⟩
  rintro m s1 ⟨i, σ1, H1, I1, ag1, g1, n1, st1, hi, rfl⟩
  show wpAny _ Z.A ((compTurn (.ListComp elt gens scope cpos) d (.ref it) (.ref D) Z.env).onRaise (fun x => do noteFrame x Z.env; theTreesLotGoes x)) _ _ s1
  refine wpAny_noted ?_
  rw [hturn]
  refine wpAny_bind (wpAny_standAt (wpAny_bind ?_))
  have hq := hG i H1 hi g1
  by_cases hlt : i < xs.length
  · have go := T.item Z rfl rfl rfl hcalm i pins s1 σ1 H1 (fun _ _ => False) I1 (hb1 n1) st1 ⟨xs, xs[i], hq, List.getElem?_eq_getElem hlt⟩
    refine thnF go ?_
    rintro r s2 ⟨u, rfl, h2⟩
    refine wpAny_bind (thnF h2 ?_)
    rintro _ s3 ⟨x, H3, I3, r3, ⟨eH, hy⟩, st3, n3⟩
    subst eH
    have hx : xs[i]? = some x := hy xs hq
    have n3' : H3 it = none := n3 it (List.mem_singleton.mpr rfl)
    have I3' := I3.pinned (hb1 n3') (T.obj _ _ st3)
    have ia := (pg_name (X := Z) (pos := p) hN hk hloc hfn).run _ s3 σ1 H3 x u (fun σ' H' => σ' = σ1.set k (some x) ∧ H' = H3) I3' r3 ⟨rfl, rfl⟩
    rw [hxe] at ia
    refine wpAny_bind (thnF ia ?_)
    rintro _ s4 ⟨σ4, H4, I4, rfl, rfl⟩
    obtain ⟨o, ho, hoc⟩ := T.obj _ _ st3 it (List.mem_singleton.mpr rfl)
    have pin4 := I4.pin (it, o) (List.mem_append_right _ (List.mem_append_right _ (mem_pinsAt (List.mem_singleton.mpr rfl) ho)))
    have ep : pinsAt [it] s3.heap = pinsAt [it] s4.heap := by
      unfold pinsAt
      rw [List.filterMap_cons, List.filterMap_cons, ho, pin4.1]
      rfl
    rw [ep] at I4
    have hσ4 : (σ1.set k (some x))[k]? = some (some x) := by
      have hkl : k < σ1.length := by rw [I1.len]; exact (List.getElem?_eq_some_iff.mp hk).1
      rw [List.getElem?_set_self hkl]
    refine hbd i x s4 _ _ hx g1 n3' I4 hσ4 (ag1.trans (Ag.set hkw)) _ _ _ ?_
    intro s5 σ5 H5 I5 ag5 g5
    have pin5 := I5.pin (it, o) (List.mem_append_right _ (List.mem_append_right _ (mem_pinsAt (List.mem_singleton.mpr rfl) pin4.1)))
    have st5 : s5.heap.IsTupleIter it c (i + 1) := T.keep _ _ _ st3 (by
      intro b hb o' e
      rw [List.mem_singleton.mp hb] at e ⊢
      rw [ho] at e
      rw [← Option.some.inj e]
      exact pin5.1)
    exact wpAny_pure ⟨rfl, xs.length - (i + 1), by omega, i + 1, σ5, H5, I5.unpinned, ag5, g5, pin5.2.1, st5, hlt, rfl⟩
  · have e : i = xs.length := by omega
    subst e
    have stop := T.done Z rfl rfl rfl hcalm xs.length pins s1 σ1 H1 (fun _ _ => False) I1 (hb1 n1) st1 ⟨xs, hq, Nat.le_refl _⟩
    refine thnF stop ?_
    rintro r s2 ⟨rfl, I2⟩
    exact wpAny_pure (hfin s2 σ1 H1 I2 ag1 g1)
end
/-! ### the three clauses -/
abbrev flatE (n1 n2 n3 : Str) (iter : Expr) (scope : Scope) (q1 q2 q3 a1 a2 a3 pos : Pos) : Expr :=
  .ListComp (.Name n3 a3) [⟨.Name n1 q1, iter, [], 0⟩, ⟨.Name n2 q2, .Name n1 a1, [], 0⟩, ⟨.Name n3 q3, .Name n2 a2, [], 0⟩] scope pos
section
variable {n1 n2 n3 : Str} {iter : Expr} {scope : Scope} {q1 q2 q3 a1 a2 a3 pos : Pos} {it D : Addr} {env : Env}
abbrev downBody (e i : Expr) (d : Nat) (D : Addr) (env : Env) (kk : Sem Fin) : Sem Fin := eval i env >>= fun x => standAt i.pos >>= fun _ =>
  foldedSetIterable i env x >>= fun x => holding [x] (pyIter x) >>= fun it' => runOwn (.compStart e d it' (.ref D) env) env >>= fun _ => kk
abbrev addBody (elt : Expr) (D : Addr) (env : Env) (kk : Sem Fin) : Sem Fin :=
  (eval elt env >>= fun x => call (.builtin "list.append") [.ref D, x] >>= fun _ => pure ()) >>= fun _ => kk
theorem flat_t0 : compTurn (flatE n1 n2 n3 iter scope q1 q2 q3 a1 a2 a3 pos) 0 (.ref it) (.ref D) env =
    flatTurn (flatE n1 n2 n3 iter scope q1 q2 q3 a1 a2 a3 pos) 0 it D n1 q1 iter.pos (downBody (flatE n1 n2 n3 iter scope q1 q2 q3 a1 a2 a3 pos) (.Name n1 a1) 1 D env) env := by rfl
theorem flat_t1 : compTurn (flatE n1 n2 n3 iter scope q1 q2 q3 a1 a2 a3 pos) 1 (.ref it) (.ref D) env =
    flatTurn (flatE n1 n2 n3 iter scope q1 q2 q3 a1 a2 a3 pos) 1 it D n2 q2 a1 (downBody (flatE n1 n2 n3 iter scope q1 q2 q3 a1 a2 a3 pos) (.Name n2 a2) 2 D env) env := by rfl
theorem flat_t2 : compTurn (flatE n1 n2 n3 iter scope q1 q2 q3 a1 a2 a3 pos) 2 (.ref it) (.ref D) env =
    flatTurn (flatE n1 n2 n3 iter scope q1 q2 q3 a1 a2 a3 pos) 2 it D n3 q3 a2 (addBody (.Name n3 a3) D env) env := by rfl
end
section
variable {prog : Program} {w : World} {A : Around} {R : Result → Shared → Prop} {s : Shared} {n1 n2 n3 : Str} {iter : Expr} {scope : Scope} {q1 q2 q3 a1 a2 a3 pos : Pos} {it acc : Value} {env : Env}
theorem flat_s1 (h0 : codeAny (model prog w) A (.compLoop (flatE n1 n2 n3 iter scope q1 q2 q3 a1 a2 a3 pos) 1 it acc env) R s)
    (h : wpAny (model prog w) A (pyIter it) (fun it' s' => codeAny (model prog w) A (.compLoop (flatE n1 n2 n3 iter scope q1 q2 q3 a1 a2 a3 pos) 1 it' acc env) R s') (notedBy (model prog w) A env fun x s' => R (.error x) s') s) :
    codeAny (model prog w) A (.compStart (flatE n1 n2 n3 iter scope q1 q2 q3 a1 a2 a3 pos) 1 it acc env) R s := by
  apply codeAny_of_tree
  show wpAny _ _ ((compStart (flatE n1 n2 n3 iter scope q1 q2 q3 a1 a2 a3 pos) 1 it acc env).onRaise (fun x => do noteFrame x env; standAt theWindowsPlace)) _ _ s
  apply wpAny_notedAt
  unfold compStart
  show wpAny _ _ (ask >>= _) _ _ s
  refine wpAny_bind (wpAny_askSetting (wpAny_ite ?_))
  split
  · first | exact wpAny_pure (And.intro rfl h0) | exact wpAny_bind (wpAny_pure (wpAny_pure (And.intro rfl h0)))
  · refine wpAny_bind (wpAny_rule ?_)
    show wpAny _ _ (standAt a1 >>= _) _ _ s
    exact wpAny_bind (wpAny_standAt (wpAny_bind (wpAny_mono h (fun it' s' h' => wpAny_pure (And.intro rfl h')) fun _ _ x => x)))
theorem flat_s2 (h0 : codeAny (model prog w) A (.compLoop (flatE n1 n2 n3 iter scope q1 q2 q3 a1 a2 a3 pos) 2 it acc env) R s)
    (h : wpAny (model prog w) A (pyIter it) (fun it' s' => codeAny (model prog w) A (.compLoop (flatE n1 n2 n3 iter scope q1 q2 q3 a1 a2 a3 pos) 2 it' acc env) R s') (notedBy (model prog w) A env fun x s' => R (.error x) s') s) :
    codeAny (model prog w) A (.compStart (flatE n1 n2 n3 iter scope q1 q2 q3 a1 a2 a3 pos) 2 it acc env) R s := by
  apply codeAny_of_tree
  show wpAny _ _ ((compStart (flatE n1 n2 n3 iter scope q1 q2 q3 a1 a2 a3 pos) 2 it acc env).onRaise (fun x => do noteFrame x env; standAt theWindowsPlace)) _ _ s
  apply wpAny_notedAt
  unfold compStart
  show wpAny _ _ (ask >>= _) _ _ s
  refine wpAny_bind (wpAny_askSetting (wpAny_ite ?_))
  split
  · first | exact wpAny_pure (And.intro rfl h0) | exact wpAny_bind (wpAny_pure (wpAny_pure (And.intro rfl h0)))
  · refine wpAny_bind (wpAny_rule ?_)
    show wpAny _ _ (standAt a2 >>= _) _ _ s
    exact wpAny_bind (wpAny_standAt (wpAny_bind (wpAny_mono h (fun it' s' h' => wpAny_pure (And.intro rfl h')) fun _ _ x => x)))
end
end Sg
set_option Elab.async false
set_option linter.all false
set_option maxRecDepth 100000
set_option maxHeartbeats 4000000
namespace Sg
open PySem PySem.Spec PyProof.Rows L2
/-- cells are tuples; xs are all their items -/
inductive FlatL (K : PySem.W.Frag) (H : Hp) : List V → List V → Prop
  | nil : FlatL K H [] []
  | cons {a : Addr} {ys cells xs : List V} : SqT K H a ys → FlatL K H cells xs → FlatL K H (.ref a :: cells) (ys ++ xs)
/-- rows are tuples of tuples; xs are all the items of these -/
inductive FlatR (K : PySem.W.Frag) (H : Hp) : List V → List V → Prop
  | nil : FlatR K H [] []
  | cons {a : Addr} {cells ys rows xs : List V} : SqT K H a cells → FlatL K H cells ys → FlatR K H rows xs → FlatR K H (.ref a :: rows) (ys ++ xs)
section
variable {K : PySem.W.Frag} {H : Hp}
theorem FlatL.snoc {a : Addr} {ys : List V} (h : SqT K H a ys) : ∀ {cells xs : List V}, FlatL K H cells xs → FlatL K H (cells ++ [.ref a]) (xs ++ ys)
  | _, _, .nil => by have z := FlatL.cons h .nil; rwa [List.append_nil] at z
  | _, _, .cons h1 r => by rw [List.append_assoc]; exact .cons h1 (FlatL.snoc h r)
theorem FlatR.snoc {a : Addr} {cells ys : List V} (h : SqT K H a cells) (hl : FlatL K H cells ys) : ∀ {rows xs : List V}, FlatR K H rows xs → FlatR K H (rows ++ [.ref a]) (xs ++ ys)
  | _, _, .nil => by have z := FlatR.cons h hl .nil; rwa [List.append_nil] at z
  | _, _, .cons h1 h2 r => by rw [List.append_assoc]; exact .cons h1 h2 (FlatR.snoc h hl r)
theorem FlatL.same {H' : Hp} (e : Same H H') : ∀ {cells xs : List V}, FlatL K H cells xs → FlatL K H' cells xs
  | _, _, .nil => .nil
  | _, _, .cons h r => .cons (h.imp (fun z => z.imp (e _ _) fun ⟨o, z⟩ => ⟨o, e _ _ z⟩) id) (FlatL.same e r)
theorem FlatR.same {H' : Hp} (e : Same H H') : ∀ {rows xs : List V}, FlatR K H rows xs → FlatR K H' rows xs
  | _, _, .nil => .nil
  | _, _, .cons h l r => .cons (h.imp (fun z => z.imp (e _ _) fun ⟨o, z⟩ => ⟨o, e _ _ z⟩) id) (FlatL.same e l) (FlatR.same e r)
theorem sqT_new {D a : Addr} {o : HO} {ys : List V} (n : H D = none) (h : SqT K H a ys) : SqT K (upd H D o) a ys :=
  h.imp (fun z => z.imp (fun z => by rw [upd_ne (ne_of_none z n)]; exact z) fun ⟨u, z⟩ => ⟨u, by rw [upd_ne (ne_of_none z n)]; exact z⟩) id
end
section
variable {Z : Cx} {n1 n2 n3 : Str} {iter : Expr} {scope : Scope} {q1 q2 q3 a1 a2 a3 pos : Pos} {k1 k2 k3 : Nat}
/-- what the block says of its names -/
structure FlatN (Z : Cx) (n1 n2 n3 : Str) (k1 k2 k3 : Nat) : Prop where
  xe : Z.xe = fun _ _ => False
  calm : Z.calm = true
  nd : Z.N.Nodup
  h1 : Z.N[k1]? = some n1
  h2 : Z.N[k2]? = some n2
  h3 : Z.N[k3]? = some n3
  l1 : Z.env.scope.names.lookup n1 = some .local
  l2 : Z.env.scope.names.lookup n2 = some .local
  l3 : Z.env.scope.names.lookup n3 = some .local
  d1 : (n1 == ("__debug__" : Str)) = false
  d2 : (n2 == ("__debug__" : Str)) = false
  d3 : (n3 == ("__debug__" : Str)) = false
  c1 : (n1 == ("__classdict__" : Str)) = false
  c2 : (n2 == ("__classdict__" : Str)) = false
  c3 : (n3 == ("__classdict__" : Str)) = false
/-- the innermost loop -/
theorem flat_in (B : FlatN Z n1 n2 n3 k1 k2 k3) {pins : List (Addr × Obj)} {σ : L2.St} {H : Hp} {s : Shared} {R : Result → Shared → Prop} {it D c : Addr} {acc xs : List V}
    (hn : H D = none) (hc : SqT Z.K H c xs) (hz : acc.length + xs.length ≤ 1000000) (I : Inv Z pins σ (upd H D (.lst acc)) s) (st : s.heap.IsTupleIter it c 0) (hit : (upd H D (.lst acc)) it = none)
    (hfp : ∀ H, H it = none → FpOk Z pins H it)
    (fin : ∀ s' σ', Inv Z pins σ' (upd H D (.lst (acc ++ xs))) s' → Ag [k3] σ σ' → R (.ok .next) s') :
    codeAny (model Z.prog Z.w) Z.A (.compLoop (flatE n1 n2 n3 iter scope q1 q2 q3 a1 a2 a3 pos) 2 (.ref it) (.ref D) Z.env) R s := by
  refine flat_loop B.xe B.calm B.nd flat_t2 B.h3 (.inl B.l3) (.inr B.l3) (List.mem_singleton.mpr rfl) σ (fun i H' => H' = upd H D (.lst (acc ++ xs.take i)))
    (fun i H' _ e => by rw [e]; exact sqT_new hn hc) hfp (fun i x s1 σ1 H1 hx e hi I1 hk ag kk Qf Ef cont => ?_) (fun s' σ' H' I' ag e => ?_) I (Ag.refl _ _) (by rw [List.take_zero, List.append_nil]) hit st
  · subst e
    have ev := (pe_var (pos := a3) (X := Z) B.h3 (.inl B.l3) B.d3 B.c3).run _ s1 σ1 _ (fun v H2 => v = x ∧ H2 = upd H D (.lst (acc ++ xs.take i))) I1 ⟨x, hk, rfl, rfl⟩
    rw [B.xe] at ev
    refine wpAny_bind (wpAny_bind (thnF ev ?_))
    rintro u s2 ⟨v, H2, I2, r2, rfl, rfl⟩
    have lt : (acc ++ xs.take i).length < sizeLine := by
      have h4 : sizeLine = 16777216 := sizeLine_eq
      rw [List.length_append, List.length_take]
      have := Nat.min_le_right i xs.length
      omega
    refine wpAny_bind (app_ok (X := Z) I2 upd_same lt r2 fun s3 I3 => wpAny_pure ?_)
    rw [upd_upd] at I3
    refine cont s3 σ1 _ I3 ag ?_
    rw [List.take_add_one, hx, List.append_assoc]
    rfl
  · subst e
    rw [List.take_length] at I'
    exact fin s' σ' I' ag
/-- down a level: name, iterator, loop -/
theorem flat_down {pins : List (Addr × Obj)} {σ : L2.St} {H : Hp} {s : Shared} {c : Addr} {ys : List V} {nn : Str} {aa : Pos} {e : Expr} {d k : Nat} {D : Addr} {kk : Sem Fin} {Qf : Fin → Shared → Prop} {Ef : Value → Shared → Prop}
    (hxe : Z.xe = fun _ _ => False) (hN : Z.N[k]? = some nn) (hl : Z.env.scope.names.lookup nn = some .local) (hd : (nn == ("__debug__" : Str)) = false) (hcd : (nn == ("__classdict__" : Str)) = false)
    (I : Inv Z pins σ H s) (hk : σ[k]? = some (some (.ref c))) (hq : SqT Z.K H c ys)
    (go : ∀ s1 it, Inv Z pins σ H s1 → H it = none → (∀ H, H it = none → FpOk Z pins H it) → s1.heap.IsTupleIter it c 0 →
      codeAny (model Z.prog Z.w) Z.A (.compStart e d (.ref it) (.ref D) Z.env) (fun r s' => r = .ok .next ∧ wpAny (model Z.prog Z.w) Z.A kk Qf Ef s') s1) :
    wpAny (model Z.prog Z.w) Z.A (downBody e (.Name nn aa) d D Z.env kk) Qf Ef s := by
  have ev := (pe_var (pos := aa) (X := Z) hN (.inl hl) hd hcd).run _ s σ H (fun v H2 => v = .ref c ∧ H2 = H) I ⟨.ref c, hk, rfl, rfl⟩
  rw [hxe] at ev
  refine wpAny_bind (thnF ev ?_)
  rintro u s2 ⟨v, H2, I2, r2, rfl, rfl⟩
  obtain rfl : u = Value.ref c := r2
  refine wpAny_bind (wpAny_standAt (wpAny_bind (wpAny_of_eq (a := Value.ref c) rfl (wpAny_bind (wpAny_holding ?_)))))
  obtain ⟨its, rv, p, hz⟩ := I2.tuple hq
  refine wpAny_pyIter_tuple (show s2.heap.IsTuple c its.toArray from p) ?_
  refine wpAny_bind (wpAny_runOwn ?_)
  rw [Around.mark_none]
  have I3 : Inv Z pins σ H2 { s2 with heap := s2.heap.push { cls := .type "tuple_iterator", data := .fields #[.ref c, .int 0 0] } } := I2.kept (t' := s2.toks) fun b o e => Heap.get?_push_of_some _ e
  refine codeAny_mono (go _ s2.heap.objs.size I3 (I2.hok.fresh (Nat.le_refl _)) (fun H' h => I2.fpOk (Nat.le_refl _) h) ⟨_, Heap.get?_push_size _ rfl, rfl, rfl⟩) ?_
  rintro r s' ⟨rfl, hkk⟩
  exact hkk
/-- the middle loop -/
theorem flat_mid (B : FlatN Z n1 n2 n3 k1 k2 k3) {pins : List (Addr × Obj)} {σ : L2.St} {H : Hp} {s : Shared} {R : Result → Shared → Prop} {it D c : Addr} {acc cells xs : List V}
    (hn : H D = none) (hc : SqT Z.K H c cells) (hf : FlatL Z.K H cells xs) (hz : acc.length + xs.length ≤ 1000000) (I : Inv Z pins σ (upd H D (.lst acc)) s) (st : s.heap.IsTupleIter it c 0) (hit : (upd H D (.lst acc)) it = none)
    (hfp : ∀ H, H it = none → FpOk Z pins H it)
    (fin : ∀ s' σ', Inv Z pins σ' (upd H D (.lst (acc ++ xs))) s' → Ag [k2, k3] σ σ' → R (.ok .next) s') :
    codeAny (model Z.prog Z.w) Z.A (.compLoop (flatE n1 n2 n3 iter scope q1 q2 q3 a1 a2 a3 pos) 1 (.ref it) (.ref D) Z.env) R s := by
  refine flat_loop (ws := [k2, k3]) B.xe B.calm B.nd flat_t1 B.h2 (.inl B.l2) (.inr B.l2) (List.mem_cons_self) σ
    (fun i H' => ∃ pre suf ys zs, cells = pre ++ suf ∧ pre.length = i ∧ FlatL Z.K H pre ys ∧ FlatL Z.K H suf zs ∧ xs = ys ++ zs ∧ H' = upd H D (.lst (acc ++ ys)))
    (fun i H' _ ⟨_, _, _, _, _, _, _, _, _, e⟩ => by rw [e]; exact sqT_new hn hc) hfp (fun i x s1 σ1 H1 hx e hi I1 hk ag kk Qf Ef cont => ?_) (fun s' σ' H' I' ag e => ?_) I (Ag.refl _ _)
    ⟨[], cells, [], xs, rfl, rfl, .nil, hf, rfl, by rw [List.append_nil]⟩ hit st
  · obtain ⟨pre, suf, ys, zs, ec, el, f1, f2, ex, rfl⟩ := e
    cases f2 with
    | nil =>
      rw [ec, List.append_nil, ← el, List.getElem?_eq_none (Nat.le_refl _)] at hx
      exact nomatch hx
    | @cons b bs suf' zs' hb r =>
      have xb : x = .ref b := by
        rw [ec, ← el, List.getElem?_append_right (Nat.le_refl _), Nat.sub_self] at hx
        exact (Option.some.inj hx).symm
      subst xb
      have zl : acc.length + ys.length + bs.length ≤ 1000000 := by
        rw [ex, List.length_append, List.length_append] at hz
        omega
      refine flat_down B.xe B.h2 B.l2 B.d2 B.c2 I1 hk (sqT_new hn hb) fun s2 it2 I2 n2' fp2 st2 => ?_
      have loop : codeAny (model Z.prog Z.w) Z.A (.compLoop (flatE n1 n2 n3 iter scope q1 q2 q3 a1 a2 a3 pos) 2 (.ref it2) (.ref D) Z.env) (fun r s' => r = .ok .next ∧ wpAny (model Z.prog Z.w) Z.A kk Qf Ef s') s2 := by
        refine flat_in B hn hb (by rw [List.length_append]; exact zl) I2 st2 n2' fp2 fun s3 σ3 I3 ag3 => ⟨rfl, ?_⟩
        refine cont s3 σ3 _ I3 (ag.trans (ag3.mono (by simp))) ⟨pre ++ [.ref b], suf', ys ++ bs, zs', by rw [ec, List.append_assoc]; rfl, by rw [List.length_append, el]; rfl, FlatL.snoc hb f1, r, by rw [ex, List.append_assoc], by rw [List.append_assoc]⟩
      exact flat_s2 loop (wpAny_pyIter_tupleiter st2 loop)
  · obtain ⟨pre, suf, ys, zs, ec, el, f1, f2, ex, rfl⟩ := e
    have es : suf = [] := by
      have z := congrArg List.length ec
      rw [List.length_append, el] at z
      exact List.eq_nil_of_length_eq_zero (by omega)
    subst es
    cases f2
    rw [List.append_nil] at ex
    subst ex
    exact fin s' σ' I' ag
/-- the outer loop -/
theorem flat_out (B : FlatN Z n1 n2 n3 k1 k2 k3) {σ : L2.St} {H : Hp} {s : Shared} {R : Result → Shared → Prop} {it D c : Addr} {rows xs : List V}
    (hn : H D = none) (hc : SqT Z.K H c rows) (hf : FlatR Z.K H rows xs) (hz : xs.length ≤ 1000000) (I : Inv Z [] σ (upd H D (.lst [])) s) (st : s.heap.IsTupleIter it c 0) (hit : (upd H D (.lst [])) it = none)
    (hfp : ∀ H, H it = none → FpOk Z [] H it)
    (fin : ∀ s' σ', Inv Z [] σ' (upd H D (.lst xs)) s' → R (.ok .next) s') :
    codeAny (model Z.prog Z.w) Z.A (.compLoop (flatE n1 n2 n3 iter scope q1 q2 q3 a1 a2 a3 pos) 0 (.ref it) (.ref D) Z.env) R s := by
  refine flat_loop (ws := [k1, k2, k3]) B.xe B.calm B.nd flat_t0 B.h1 (.inl B.l1) (.inr B.l1) (List.mem_cons_self) σ
    (fun i H' => ∃ pre suf ys zs, rows = pre ++ suf ∧ pre.length = i ∧ FlatR Z.K H pre ys ∧ FlatR Z.K H suf zs ∧ xs = ys ++ zs ∧ H' = upd H D (.lst ys))
    (fun i H' _ ⟨_, _, _, _, _, _, _, _, _, e⟩ => by rw [e]; exact sqT_new hn hc) hfp (fun i x s1 σ1 H1 hx e hi I1 hk ag kk Qf Ef cont => ?_) (fun s' σ' H' I' ag e => ?_) I (Ag.refl _ _)
    ⟨[], rows, [], xs, rfl, rfl, .nil, hf, rfl, rfl⟩ hit st
  · obtain ⟨pre, suf, ys, zs, ec, el, f1, f2, ex, rfl⟩ := e
    cases f2 with
    | nil =>
      rw [ec, List.append_nil, ← el, List.getElem?_eq_none (Nat.le_refl _)] at hx
      exact nomatch hx
    | @cons b bcells bs suf' zs' hb hbl r =>
      have xb : x = .ref b := by
        rw [ec, ← el, List.getElem?_append_right (Nat.le_refl _), Nat.sub_self] at hx
        exact (Option.some.inj hx).symm
      subst xb
      have zl : ys.length + bs.length ≤ 1000000 := by
        rw [ex, List.length_append, List.length_append] at hz
        omega
      refine flat_down B.xe B.h1 B.l1 B.d1 B.c1 I1 hk (sqT_new hn hb) fun s2 it2 I2 n2' fp2 st2 => ?_
      have loop : codeAny (model Z.prog Z.w) Z.A (.compLoop (flatE n1 n2 n3 iter scope q1 q2 q3 a1 a2 a3 pos) 1 (.ref it2) (.ref D) Z.env) (fun r s' => r = .ok .next ∧ wpAny (model Z.prog Z.w) Z.A kk Qf Ef s') s2 := by
        refine flat_mid B hn hb hbl zl I2 st2 n2' fp2 fun s3 σ3 I3 ag3 => ⟨rfl, ?_⟩
        refine cont s3 σ3 _ I3 (ag.trans (ag3.mono (by simp))) ⟨pre ++ [.ref b], suf', ys ++ bs, zs', by rw [ec, List.append_assoc]; rfl, by rw [List.length_append, el]; rfl, FlatR.snoc hb hbl f1, r, by rw [ex, List.append_assoc], rfl⟩
      exact flat_s1 loop (wpAny_pyIter_tupleiter st2 loop)
  · obtain ⟨pre, suf, ys, zs, ec, el, f1, f2, ex, rfl⟩ := e
    have es : suf = [] := by
      have z := congrArg List.length ec
      rw [List.length_append, el] at z
      exact List.eq_nil_of_length_eq_zero (by omega)
    subst es
    cases f2
    rw [List.append_nil] at ex
    subst ex
    exact fin s' σ' I'
end
end Sg
set_option Elab.async false
set_option linter.all false
set_option maxRecDepth 100000
set_option maxHeartbeats 4000000
namespace Sg
open PySem PySem.Spec PyProof.Rows L2
/-- [c for a in e for b in a for c in b]: e a tuple of tuples of tuples -/
def tFlat (K : PySem.W.Frag) (te : TE) : TE := fun σ H Q => te σ H fun v H1 => ∃ t rows xs, v = .ref t ∧ SqT K H1 t rows ∧ FlatR K H1 rows xs ∧ xs.length ≤ 1000000 ∧
  ∀ D, H1 D = none → Q (.ref D) (upd H1 D (.lst xs))
section
variable {X : Cx} {n1 n2 n3 : Str} {iter : Expr} {scope : Scope} {q1 q2 q3 a1 a2 a3 pos : Pos} {k1 k2 k3 : Nat} {own : List (Str × Nat)} {te : TE}
theorem pe_flat (hc : X.calm = true) (hN : X.N.Nodup) (hi : PE X iter te) (ok : BlkOk X.N X.env.scope scope own)
    (h1 : X.N[k1]? = some n1) (h2 : X.N[k2]? = some n2) (h3 : X.N[k3]? = some n3)
    (l1 : ∀ (C : Addr) (cl : List (Str × Addr)), (compEnvC scope cl C X.env).scope.names.lookup n1 = some .local)
    (l2 : ∀ (C : Addr) (cl : List (Str × Addr)), (compEnvC scope cl C X.env).scope.names.lookup n2 = some .local)
    (l3 : ∀ (C : Addr) (cl : List (Str × Addr)), (compEnvC scope cl C X.env).scope.names.lookup n3 = some .local)
    (dd : ((n1 == ("__debug__" : Str)) || (n2 == ("__debug__" : Str)) || (n3 == ("__debug__" : Str)) || (n1 == ("__classdict__" : Str)) || (n2 == ("__classdict__" : Str)) || (n3 == ("__classdict__" : Str))) = false := by decide)
    (hs : ∀ x, foldedSetIterable iter X.env x = pure x := by intro _; rfl) :
    PE X (flatE n1 n2 n3 iter scope q1 q2 q3 a1 a2 a3 pos) (tFlat X.K te) := by
  simp only [Bool.or_eq_false_iff] at dd
  obtain ⟨⟨⟨⟨⟨d1, d2⟩, d3⟩, c1⟩, c2⟩, c3⟩ := dd
  constructor
  intro pins s σ H Q I h
  rw [eval_ListComp]
  have hfree : ∀ y ∈ scope.names, y.2 = .free → ∃ c, X.env.cells.lookup y.1 = some c := by
    intro y hy e
    cases ok.free y hy e with
    | inl k => exact I.ok.has _ (.inl k)
    | inr k => exact I.ok.has _ (.inr k)
  refine wpAny_comprehension_free (use := none) rfl hs (closure_ok hfree) ok.kind (fun y hy e => by rw [ok.uniq y hy, e]) (thn (hi.run pins s σ H _ I h) ?_)
  rintro xv s1 ⟨v, H1, I1, r1, t, rows, xs, rfl, hq, hf, hz, q⟩
  obtain rfl : xv = Value.ref t := r1
  obtain ⟨its, rv, p, hzz⟩ := I1.tuple hq
  refine wpAny_pyIter_tuple (show s1.heap.IsTuple t its.toArray from p) ?_
  generalize hs2 : ({ s1 with heap := s1.heap.push { cls := .type "tuple_iterator", data := .fields #[.ref t, .int 0 0] } } : Shared) = s2
  have I2 : Inv X pins σ H1 s2 := by
    rw [← hs2]
    exact I1.kept (t' := s1.toks) fun b o e => Heap.get?_push_of_some _ e
  generalize hit : s1.heap.objs.size = it
  have st2 : s2.heap.IsTupleIter it t 0 := by
    rw [← hs2, ← hit]
    exact ⟨_, Heap.get?_push_size _ rfl, rfl, rfl⟩
  have nn2 : H1 it = none := I1.hok.fresh (Nat.le_of_eq hit)
  have lt2 : it < s2.heap.objs.size := by
    obtain ⟨_, e, _⟩ := st2
    exact Heap.lt_size e
  have f2 : ∀ H', H' it = none → FpOk X pins H' it := fun H' hn => I1.fpOk (Nat.le_of_eq hit) hn
  refine wpAny_newObj_type (newEnv_comp ?_) (by show 0 ≤ sizeLine; decide)
  generalize hD : s2.heap.objs.size = D
  have hDn : H1 D = none := I2.hok.fresh (Nat.le_of_eq hD)
  generalize hs3 : ({ s2 with heap := s2.heap.push { cls := .type "list", data := .seq ([] : List Value).toArray } } : Shared) = s3
  have I3 : Inv X pins σ (upd H1 D (.lst [])) s3 := by
    rw [← hs3]
    refine I2.laid (t' := s2.toks) (fun b o e => Heap.get?_push_of_some _ e) (Nat.le_of_eq hD) ⟨Nat.zero_le _, [], 0, .nil, ?_⟩
    rw [← hD]
    exact Heap.get?_push_size _ rfl
  have k3' : ∀ b o, s2.heap.get? b = some o → s3.heap.get? b = some o := by
    intro b o e
    rw [← hs3]
    exact Heap.get?_push_of_some _ e
  have st3 : s3.heap.IsTupleIter it t 0 := st2.at fun o e => k3' it o e
  have lt3 : it < s3.heap.objs.size := by
    obtain ⟨_, e, _⟩ := st3
    exact Heap.lt_size e
  have nit : (upd H1 D (.lst [])) it = none := by
    rw [upd_ne (by rw [← hD]; exact Nat.ne_of_lt lt2)]
    exact nn2
  have I4 := block_start (fp := [it]) I3 ok hN (by
    intro b hb
    rw [List.mem_singleton.mp hb]
    exact ⟨f2 _ nit, lt3⟩)
  show codeAny _ _ (.compStart (flatE n1 n2 n3 iter scope q1 q2 q3 a1 a2 a3 pos) 0 (.ref it) (.ref D) (compEnvC scope (cellsFrom (s3.heap.objs.size + 1) scope.names (cloFrom X.env.cells scope.names [])) s3.heap.objs.size X.env))
    (compPost (model X.prog X.w) X.A X.xe none (EP X pins σ Q) (.ref D) s3.heap.objs.size) { s3 with heap := pushCells (s3.heap.push { cls := .type "dict", data := .dict #[] }) scope.names }
  have hl1 := l1 s3.heap.objs.size (cellsFrom (s3.heap.objs.size + 1) scope.names (cloFrom X.env.cells scope.names []))
  have hl2 := l2 s3.heap.objs.size (cellsFrom (s3.heap.objs.size + 1) scope.names (cloFrom X.env.cells scope.names []))
  have hl3 := l3 s3.heap.objs.size (cellsFrom (s3.heap.objs.size + 1) scope.names (cloFrom X.env.cells scope.names []))
  have cL : (compEnvC scope (cellsFrom (s3.heap.objs.size + 1) scope.names (cloFrom X.env.cells scope.names [])) s3.heap.objs.size X.env).locals = s3.heap.objs.size := rfl
  generalize compEnvC scope (cellsFrom (s3.heap.objs.size + 1) scope.names (cloFrom X.env.cells scope.names [])) s3.heap.objs.size X.env = ce at I4 hl1 hl2 hl3 cL ⊢
  have st4 : (pushCells (s3.heap.push { cls := .type "dict", data := .dict #[] }) scope.names).IsTupleIter it t 0 :=
    st3.at fun o e => pushCells_keeps _ _ _ _ (Heap.get?_push_of_some _ e)
  generalize hs4 : ({ s3 with heap := pushCells (s3.heap.push { cls := .type "dict", data := .dict #[] }) scope.names } : Shared) = s4 at I4 ⊢
  have st4' : s4.heap.IsTupleIter it t 0 := by rw [← hs4]; exact st4
  have B : FlatN (X.blk s3 (upd H1 D (.lst [])) scope ce [it]) n1 n2 n3 k1 k2 k3 := ⟨rfl, hc, hN, h1, h2, h3, hl1, hl2, hl3, d1, d2, d3, c1, c2, c3⟩
  have fpZ : ∀ H', H' it = none → FpOk (X.blk s3 (upd H1 D (.lst [])) scope ce [it]) [] H' it := by
    intro H' hn
    refine ⟨hn, (I4.ok.exf it (List.mem_singleton.mpr rfl)).1, I4.ok.exfs it (List.mem_singleton.mpr rfl), .inl (List.mem_singleton.mpr rfl), (I4.ok.exf it (List.mem_singleton.mpr rfl)).2, ?_⟩
    intro p hp
    have hp' : p ∈ ([] : List (Addr × Obj)) ++ [] := hp
    exact nomatch hp'
  have loop : codeAny (model X.prog X.w) X.A (.compLoop (flatE n1 n2 n3 iter scope q1 q2 q3 a1 a2 a3 pos) 0 (.ref it) (.ref D) ce)
      (compPost (model X.prog X.w) X.A X.xe none (EP X pins σ Q) (.ref D) s3.heap.objs.size) s4 := by
    refine flat_out B hDn hq hf hz I4 st4' nit fpZ ?_
    intro s' σ' I5
    have I6 : Inv X pins σ (upd H1 D (.lst xs)) s' := by
      refine I3.call' (ch := [it]) I5.os I5.base I5.hok I5.bare ?_
      intro b hb
      rw [List.mem_singleton.mp hb]
      obtain ⟨_, g1, g2, g3, g4, g5⟩ := f2 _ nit
      exact ⟨g3, g1, g4, g5⟩
    have nC : (upd H1 D (.lst xs)) s3.heap.objs.size = none := by
      have z : (upd H1 D (.lst xs)) ce.locals = none := I5.free
      rw [cL] at z
      exact z
    obtain ⟨m, hn, _⟩ := I5.loc
    have hn' : s'.heap.Ns ce.locals m := hn
    rw [cL] at hn'
    refine ⟨m, hn', ?_⟩
    intro h'' sb
    obtain ⟨f0, f1, f2', f3, f4, f5⟩ := I3.fpOk (Nat.le_refl _) nC
    exact ⟨.ref D, _, I6.turned (t' := s'.toks) (fun b o hb e => (sb.2 b hb).trans e) f0 f1 f3 f4 f5, rfl, q D hDn⟩
  exact codeAny_compStart_list loop (wpAny_pyIter_tupleiter st4' loop)
end
end Sg
set_option Elab.async false
set_option linter.all false
set_option maxRecDepth 100000
set_option maxHeartbeats 4000000
namespace Sg
open PySem PySem.Spec PyProof.Rows L2
/-! ## max with a default -/
section
variable {X : Cx}
theorem cr_maxD (hc : X.calm = true) {j : Nat} (hr : Room j X.A) : CallRK X (.builtin "max") ["default"] (fun vs zs H Q => ∃ (a : Addr) (ns : List Int) (d : Int), vs = [.ref a] ∧ zs = [.int d] ∧ SqL X.K H a (ns.map V.int) ∧
    ∀ m : Int, (ns = [] → m = d) → (ns ≠ [] → m ∈ ns ∧ ∀ x ∈ ns, x ≤ m) → Q (.int m) H) := by
  intro pins s σ H xs zs us ws Q I r rz h
  obtain ⟨a, ns, d, rfl, rfl, hs, q⟩ := h
  obtain ⟨u, rfl, rfl⟩ := vals1 r
  obtain ⟨dv, rfl, td, rfl⟩ := vals1 rz
  obtain ⟨its, rv, hl, hzz⟩ := I.list hs
  have dp : DpAll X.K H (ns.map V.int) (ns.map PyData.int) := by
    clear hs q rv hl hzz
    induction ns with
    | nil => exact .nil
    | cons x r ih => exact .cons (.int x) ih
  obtain ⟨as, rd⟩ := Dp.readsAll I (ns.map PyData.int) _ its dp rv
  have al : PySem.W.AlikeAll (ns.map PyData.int) := by
    constructor
    · intro x hx y hy
      obtain ⟨i, _, rfl⟩ := List.mem_map.mp hx
      obtain ⟨j, _, rfl⟩ := List.mem_map.mp hy
      rfl
    · intro x hx z
      obtain ⟨i, _, rfl⟩ := List.mem_map.mp hx
      exact nomatch z
  have dep : PyData.depthAll (ns.map PyData.int) = 0 := by
    clear hs q rv hl rd al dp hzz
    induction ns with
    | nil => rfl
    | cons x r ih =>
      show max (PyData.depth (.int x)) (PyData.depthAll (r.map PyData.int)) = 0
      rw [ih]; rfl
  have hu := hr.units
  refine PySem.W.max_list_default (I.ok.hd hc) hl.isList (by simpa using rd) al (by rw [dep]; omega) (fun e h' tk hk => ?_) (fun y ys i v h' tk bs e hv hrd hk => ?_)
  · exact ⟨.int d, H, I.kept hk, ⟨_, rfl⟩, q d (fun _ => rfl) (fun z => absurd (List.map_eq_nil_iff.mp e) z)⟩
  · cases ns with
    | nil => exact nomatch e
    | cons n ns' =>
      obtain ⟨e1, e2⟩ := List.cons.inj e
      subst e1 e2
      rw [PySem.W.maxD_ints] at hrd
      cases hrd
      refine ⟨.int _, H, I.kept hk, ⟨_, rfl⟩, q _ (fun z => nomatch z) (fun _ => ?_)⟩
      have key : ∀ (l : List Int) (a : Int), (l.foldl max a = a ∨ l.foldl max a ∈ l) ∧ a ≤ l.foldl max a ∧ ∀ x ∈ l, x ≤ l.foldl max a := by
        intro l
        induction l with
        | nil => intro a; exact ⟨.inl rfl, Int.le_refl _, fun x hx => nomatch hx⟩
        | cons b l ih =>
          intro a
          obtain ⟨g1, g2, g3⟩ := ih (max a b)
          refine ⟨?_, by show a ≤ l.foldl max (max a b); omega, fun x hx => ?_⟩
          · show l.foldl max (max a b) = a ∨ l.foldl max (max a b) ∈ b :: l
            rcases g1 with g | g
            · rcases Int.le_total a b with z | z
              · right; rw [g, Int.max_eq_right z]; exact List.mem_cons_self
              · left; rw [g, Int.max_eq_left z]
            · exact .inr (List.mem_cons_of_mem _ g)
          · show x ≤ l.foldl max (max a b)
            rcases List.mem_cons.mp hx with rfl | z
            · omega
            · exact g3 x z
      obtain ⟨g1, g2, g3⟩ := key ns' n
      refine ⟨?_, fun x hx => ?_⟩
      · rcases g1 with g | g
        · rw [g]; exact List.mem_cons_self
        · exact List.mem_cons_of_mem _ g
      · rcases List.mem_cons.mp hx with rfl | z
        · exact g2
        · exact g3 x z
end
/-! ## operators of one's own -/
section
variable {X : Cx} {k : Nat} {C g : Addr} {fd : FuncData} {ps : List Str} {sp : Sp}
/-- an instance of C -/
def InsAt (H : Hp) (C a : Addr) : Prop := ∃ dx fs, H a = some (.ins C dx fs)
theorem insAt_look {pins : List (Addr × Obj)} {σ : L2.St} {H : Hp} {s : Shared} {a : Addr} (I : Inv X pins σ H s) (h : InsAt H C a) : ∃ ox od, PySem.W.InstAt s.heap a ox C od := by
  obtain ⟨dx, fs, h⟩ := h
  obtain ⟨mA, O, _⟩ := ins_get I.hok h
  obtain ⟨od, J, _⟩ := O.look
  exact ⟨_, _, J⟩
/-- a def called one C frame further in -/
theorem run_in1 {pins : List (Addr × Obj)} {σ : L2.St} {H : Hp} {s : Shared} {Q : VK} {us : List Value} {vs : List V} (F : FnOk X.prog X.w X.K X.mg X.base CX0 k g fd ps sp) (hr : Room (k + 1) X.A) (hb : Binds X.K fd ps [])
    (I : Inv X pins σ H s) (r : Vals vs us) (h : sp vs H Q E0) {E : Value → Shared → Prop} : wpAny (model X.prog X.w) X.A.in1 (call (.ref g) us) (EP X pins σ Q) E s := by
  have hl : (us ++ []).length = ps.length := by rw [List.append_nil, ← r.length]; exact F.len _ _ _ _ h
  have hbb := hb s us I.kIn hl
  rw [List.append_nil] at hbb
  refine wpAny_call (codeAny_mono (F.run X.A.in1 X.stack s H ⟨us, []⟩ us vs Q E0 hr.in1 I.env0.in1 hbb r h) ?_)
  intro r' s' hq
  match r', hq with
  | .error _, hq => exact hq.elim
  | .ok (.ret _), hq => exact I.after hq
  | .ok .next, hq => exact hq.elim
  | .ok .brk, hq => exact hq.elim
  | .ok .cont, hq => exact hq.elim
/-- len(a) -/
theorem call_lenO (F : FnOk X.prog X.w X.K X.mg X.base CX0 k g fd ps sp) (hr : Room (k + 1) X.A) (hb : Binds X.K fd ps []) (hs : PySem.W.findIn X.K (.ref C) "__len__" = some (some (.ref g))) (hf : PySem.W.isFn X.K (.ref g) = true) :
    CallR X (.builtin "len") (fun xs H Q => ∃ a, xs = [.ref a] ∧ InsAt H C a ∧ sp [.ref a] H (fun v H' => ∃ n : Nat, v = .int n ∧ n < 1000000 ∧ Q (.int n) H') E0) := by
  intro pins s σ H xs us Q I r h
  obtain ⟨a, rfl, ha, h⟩ := h
  obtain ⟨u, rfl, rfl⟩ := vals1 r
  obtain ⟨m, hF⟩ := I.fr
  obtain ⟨_, _, J⟩ := insAt_look I ha
  refine PySem.W.len_K hF I.ok.mod.kin J hs hf (thn (run_in1 (us := [.ref a]) (vs := [.ref a]) F hr hb I (.cons rfl .nil) h) ?_)
  rintro v s' ⟨x, H', I', rx, n, rfl, hn, q⟩
  obtain ⟨t, rfl⟩ := rx
  exact ⟨⟨by omega, by omega⟩, ⟨.int n, H', I'.tok _, ⟨_, rfl⟩, q⟩⟩
end
end Sg
set_option Elab.async false
set_option linter.all false
set_option maxRecDepth 100000
set_option maxHeartbeats 4000000
set_option Elab.async false
set_option linter.all false
set_option maxRecDepth 100000
set_option maxHeartbeats 4000000
namespace Sg
open PySem PySem.Spec PyProof.Rows L2 HT
/-! ## t[::-1] of a tuple -/
section
variable {prog : Program} {w : World} {A : Around} {E : Value → Shared → Prop} {s : Shared}
theorem slicePlaces_rev (n : Nat) : Builtin.Slice.slicePlaces ((n : Int) - 1) (-1) (-1) = n := by
  unfold Builtin.Slice.slicePlaces
  have h1 : ¬ ((-1 : Int) > 0) := by omega
  simp only [h1, if_false, Int.neg_neg, Int.ediv_one]
  split <;> omega
theorem sliceApplied_rev {sl : Addr} {vl vu vs : Value} {n : Nat} {Q : Int × Int × Nat → Shared → Prop} (hs : s.heap.IsSliceOf sl vl vu vs) (pl : IsPart vl none) (pu : IsPart vu none) (ps : IsPart vs (some (-1)))
    (h : Q ((n : Int) - 1, -1, n) s) : wpAny (model prog w) A (Builtin.Slice.sliceApplied (.ref sl) (pure (n : Int))) Q E s := by
  obtain ⟨os, hos, hcs, hds⟩ := id hs
  unfold Builtin.Slice.sliceApplied Builtin.Slice.sliceFields
  refine wpAny_bind (wpAny_bind (wpAny_field hos hds (x := vl) rfl (wpAny_bind (wpAny_field hos hds (x := vu) rfl (wpAny_bind (wpAny_field hos hds (x := vs) rfl (wpAny_pure ?_)))))))
  refine wpAny_bind (slicePart_ ps ?_)
  show wpAny _ _ (if ((-1 : Int) == 0) = true then _ else _) _ _ s
  rw [if_neg (by decide)]
  refine wpAny_bind (slicePart_ pl (wpAny_bind (slicePart_ pu (wpAny_bind (wpAny_pure ?_)))))
  show wpAny _ _ (pure ((n : Int) - 1, (-1 : Int), Builtin.Slice.slicePlaces ((n : Int) - 1) (-1) (-1))) _ _ s
  rw [slicePlaces_rev]
  exact wpAny_pure h
theorem filterMap_on {α β : Type} {f g : α → Option β} : ∀ {l : List α}, (∀ x ∈ l, f x = g x) → l.filterMap f = l.filterMap g
  | [], _ => rfl
  | x :: r, h => by
    rw [List.filterMap_cons, List.filterMap_cons, h x List.mem_cons_self, filterMap_on fun y hy => h y (List.mem_cons_of_mem _ hy)]
theorem pick_rev (xs : Array Value) : ((List.range xs.size).filterMap fun (m : Nat) => xs[(((xs.size : Int) - 1) + (m : Int) * (-1)).toNat]?).toArray = xs.toList.reverse.toArray := by
  have e1 : ∀ m ∈ List.range xs.size, xs[(((xs.size : Int) - 1) + (m : Int) * (-1)).toNat]? = xs[xs.size - 1 - m]? := by
    intro m hm
    have := List.mem_range.mp hm
    rw [show (((xs.size : Int) - 1) + (m : Int) * (-1)).toNat = xs.size - 1 - m from by omega]
  have e2 : ((List.range xs.size).map fun k => xs.size - 1 - k).filterMap (xs[·]?) = xs.toList.reverse := by
    rw [PySem.W.krv_range, List.filterMap_reverse, PySem.W.krv_all]
  rw [List.filterMap_map] at e2
  rw [← e2]
  congr 1
  exact filterMap_on (fun m hm => e1 m hm)
theorem getItem_tuple_rev {t sl : Addr} {items : Array Value} {vl vu vs : Value} {Q : Value → Shared → Prop} (ht : IsTup s.heap t items) (hs : s.heap.IsSliceOf sl vl vu vs) (pl : IsPart vl none) (pu : IsPart vu none) (ps : IsPart vs (some (-1)))
    (h : Q (.ref s.heap.objs.size) { s with heap := s.heap.push { cls := .type "tuple", data := .seq items.toList.reverse.toArray } })
    (hsz : items.size ≤ sizeLine) : wpAny (model prog w) A (getItem (.ref t) (.ref sl)) Q E s := by
  have htake : sizeOk (.seq items.toList.reverse.toArray) := by
    show items.toList.reverse.toArray.size ≤ sizeLine
    rw [List.size_toArray, List.length_reverse, Array.length_toList]
    exact hsz
  obtain ⟨os, hos, hcs, hds⟩ := id hs
  have hTs : s.TypeIs (.ref sl) "slice" := ⟨os, hos, hcs⟩
  unfold getItem
  try with_reducible refine wpAny_holding ?_
  first | refine wpAny_bind (wpAny_pure ?_) | skip
  refine wpAny_bind (wpAny_sequenceKey ht.typeIs (by decide) ?_)
  refine wpAny_bind (wpAny_callSpecial?_slot (name := Str.ofString "__getitem__") ht.typeIs PyProof.Rows.slot_tuple_getitem
    (wpAny_call_entry PyProof.Rows.slot_tuple_getitem ht.typeIs entry_tuple_getitem ?_ (args_tuple_getitem _ _)))
  show wpAny _ _ (Builtin.Tuple.tupleItemsOf (.ref t) >>= _) _ _ s
  refine wpAny_bind (tupleItemsOf_ ht ?_)
  refine wpAny_bind (wpAny_typeOf hTs ?_)
  rw [if_pos (by decide)]
  refine wpAny_bind (sliceApplied_rev hs pl pu ps ?_)
  have hno : ¬ ((((items.size : Int) - 1) == 0 && (-1 : Int) == 1 && items.size == items.size) = true) := by
    rw [show ((-1 : Int) == 1) = false from by decide, Bool.and_false, Bool.false_and]
    exact Bool.false_ne_true
  show wpAny _ _ (if (((items.size : Int) - 1) == 0 && (-1 : Int) == 1 && items.size == items.size) = true then _ else _) _ _ s
  rw [if_neg hno, pick_rev]
  first
    | exact wpAny_bind (m := Builtin.Tuple.tupleExact _) (wpAny_newObj_type (wpAny_pure ⟨_, rfl, wpAny_pure h⟩) htake)
    | exact wpAny_bind (m := Builtin.Tuple.tupleExact _) (wpAny_newObj_type (wpAny_bind (wpAny_pure (wpAny_pure ⟨_, rfl, wpAny_pure h⟩))) htake)
    | exact wpAny_bind (wpAny_bind (m := Builtin.Tuple.tupleExact _) (wpAny_newObj_type (wpAny_pure (wpAny_pure ⟨_, rfl, wpAny_pure h⟩)) htake))
    | exact wpAny_bind (wpAny_bind (m := Builtin.Tuple.tupleExact _) (wpAny_newObj_type (wpAny_pure ⟨_, rfl, wpAny_pure h⟩) htake))
end
def tRevT (K : PySem.W.Frag) (te : TE) : TE := fun σ H Q => te σ H fun x H1 => ∃ a xs, x = .ref a ∧ SqT K H1 a xs ∧ ∀ p, H1 p = none → Q (.ref p) (upd H1 p (.tup xs.reverse))
theorem pe_revT {X : Cx} {K : PySem.W.Frag} {e : Expr} {te : TE} {k : Nat} {p1 p2 p3 pos : Pos} (hK : X.K = K) (he : PE X e te) : PE X (.Subscript e (.Slice none none (some (.UnaryOp .USub (.Constant (.int 1) k p1) p2)) p3) pos) (tRevT K te) := by
  subst hK
  refine ⟨fun pins s σ H Q I h => ?_⟩
  refine Subscript_ (thn (he.run pins s σ H _ I h) fun v s1 ⟨x, H1, I1, r1, q1⟩ => ?_)
  obtain ⟨a, xs, ex, hx, q⟩ := q1
  subst ex
  cases r1
  have hst : PO X (some (.UnaryOp .USub (.Constant (.int 1) k p1) p2)) (tPart (tUn (rU fun i => .int (-i)) (tC (.int 1)))) := po_some (pe_un un_neg pe_int)
  refine wpAny_Slice (thn (po_none.run pins s1 σ H1 (fun o H2 => o = none ∧ H2 = H1) I1 ⟨rfl, rfl⟩) fun vl s2 ⟨l, H2, I2, pl, el, e2⟩ => ?_)
  subst el e2
  refine thn (po_none.run pins s2 σ H2 (fun o H3 => o = none ∧ H3 = H2) I2 ⟨rfl, rfl⟩) fun vu s3 ⟨u, H3, I3, pu, eu, e3⟩ => ?_
  subst eu e3
  refine thn (hst.run pins s3 σ H3 (fun o H4 => o = some (-1) ∧ H4 = H3) I3 ⟨1, rfl, -1, rfl, rfl, rfl⟩) fun vs s4 ⟨o, H4, I4, ps, eo, e4⟩ => ?_
  subst eo e4
  have I5 : Inv X pins σ H4 { s4 with heap := s4.heap.push { cls := .type "slice", data := .fields #[vl, vu, vs] } } := I4.kept (t' := s4.toks) fun b ob q => Heap.get?_push_of_some _ q
  obtain ⟨its, r, ht, hz⟩ := I5.tuple hx
  have hlen := r.length
  show wpAny (model X.prog X.w) X.A (subscriptTail e (.Slice none none (some (.UnaryOp .USub (.Constant (.int 1) k p1) p2)) p3) (.ref a) (.ref s4.heap.objs.size)) (EP X pins σ Q) X.xe { s4 with heap := s4.heap.push { cls := .type "slice", data := .fields #[vl, vu, vs] } }
  refine tail_any (ops := [.ref a, .ref s4.heap.objs.size]) ht.typeIs PyProof.Rows.slot_tuple_getitem.lookup ?_ (by with_unfolding_all rfl)
  refine getItem_tuple_rev ht (Heap.IsSliceOf.new _ vl vu vs) pl pu ps ?_ (by rw [List.size_toArray]; omega)
  refine ⟨.ref _, _, I5.laid (t' := s4.toks) (o := .tup xs.reverse) (fun b ob q => Heap.get?_push_of_some _ q) (Nat.le_refl _) ?_, rfl, q _ (I5.hok.fresh (Nat.le_refl _))⟩
  exact ⟨by rw [List.length_reverse]; exact hz, _, r.reverse, IsTup.new _ _⟩
end Sg
set_option Elab.async false
set_option linter.all false
set_option maxRecDepth 100000
set_option maxHeartbeats 4000000
set_option Elab.async false
set_option linter.all false
set_option maxRecDepth 100000
set_option maxHeartbeats 4000000
set_option Elab.async false
set_option linter.all false
set_option maxRecDepth 100000
set_option maxHeartbeats 4000000
set_option Elab.async false
set_option linter.all false
set_option maxRecDepth 100000
set_option maxHeartbeats 4000000
namespace Sg
open PySem PySem.Spec PyProof.Rows L2
/-! ## heaps -/
/-- all but p is as it was -/
def But (p : Addr) (H H' : Hp) : Prop := ∀ q o, q ≠ p → H q = some o → H' q = some o
theorem But.trans {p : Addr} {H H1 H2 : Hp} (a : But p H H1) (b : But p H1 H2) : But p H H2 := fun q o n h => b q o n (a q o n h)
theorem But.of {p : Addr} {H H' : Hp} (a : Same H H') : But p H H' := fun q o _ h => a q o h
theorem But.upd {p : Addr} {H : Hp} {o : HO} : But p H (upd H p o) := fun q u n h => by rw [upd_ne n]; exact h
theorem same_new {H : Hp} {p : Addr} {o : HO} (h : H p = none) : Same H (upd H p o) := fun b x e => by
  rw [upd_ne (ne_of_none e h)]
  exact e
/-- what is new behind a But is new ahead -/
theorem But.free {p q : Addr} {H H' : Hp} {u : HO} (e : But p H H') (hp : H p = some u) (hp' : ∃ v, H' p = some v) (h : H' q = none) : H q = none := by
  by_cases n : q = p
  · subst n
    obtain ⟨v, hv⟩ := hp'
    rw [hv] at h
    exact nomatch h
  · rcases z : H q with _ | o
    · rfl
    · rw [e q o n z] at h
      exact nomatch h
theorem But.tup {K : PySem.W.Frag} {p : Addr} {H H' : Hp} {a : Addr} {xs ys : List V} (e : But p H H') (hp : H p = some (.lst ys)) (h : SqT K H a xs) : SqT K H' a xs := by
  rcases h with (h | ⟨o, h⟩) | h
  · exact .inl (.inl (e _ _ (ne_of h hp (fun z => nomatch z)) h))
  · exact .inl (.inr ⟨o, e _ _ (ne_of h hp (fun z => nomatch z)) h⟩)
  · exact .inr h
theorem Same.tup {K : PySem.W.Frag} {H H' : Hp} {a : Addr} {xs : List V} (e : Same H H') (h : SqT K H a xs) : SqT K H' a xs := by
  rcases h with (h | ⟨o, h⟩) | h
  · exact .inl (.inl (e _ _ h))
  · exact .inl (.inr ⟨o, e _ _ h⟩)
  · exact .inr h
/-- a pen at p -/
def PenAt (H : Hp) (p : Addr) : Prop := ∃ a b c : Int, H p = some (.lst [.int a, .int b, .int c]) ∧ 0 ≤ b ∧ b < 2147483648
theorem PenAt.same {H H' : Hp} {p : Addr} (h : PenAt H p) (e : Same H H') : PenAt H' p := by
  obtain ⟨a, b, c, h1, h2⟩ := h
  exact ⟨a, b, c, e _ _ h1, h2⟩
theorem PenAt.tup {K : PySem.W.Frag} {p : Addr} {H H' : Hp} {a : Addr} {xs : List V} (h : PenAt H p) (e : But p H H') (q : SqT K H a xs) : SqT K H' a xs := by
  obtain ⟨_, _, _, h1, _⟩ := h
  exact e.tup h1 q
theorem PenAt.free {p q : Addr} {H H' : Hp} (h : PenAt H p) (h' : PenAt H' p) (e : But p H H') (n : H' q = none) : H q = none := by
  obtain ⟨_, _, _, h1, _⟩ := h
  obtain ⟨_, _, _, h2, _⟩ := h'
  exact e.free h1 ⟨_, h2⟩ n
theorem atI0 {x : V} {r : List V} : atI (x :: r) 0 = some x := atI_nat (j := 0) rfl
theorem atI1 {x y : V} {r : List V} : atI (x :: y :: r) 1 = some y := atI_nat (j := 1) rfl
theorem atI2 {x y z : V} {r : List V} : atI (x :: y :: z :: r) 2 = some z := atI_nat (j := 2) rfl
end Sg
set_option Elab.async false
set_option linter.all false
set_option maxRecDepth 100000
set_option maxHeartbeats 4000000
namespace Sg
open PySem PySem.Spec PyProof.Rows L2
/-! ## the mathematics of bars -/
/-- a work, as its items -/
structure IsWork (ns : List Int) : Prop where
  pos : 1 ≤ ns.length
  most : ns.length ≤ 60
  items : ∀ x ∈ ns, -1 ≤ x ∧ x ≤ 9
  head : ∀ x, ns[0]? = some x → x ≠ -1
  last : ∀ x, ns[ns.length - 1]? = some x → x ≠ -1
/-- a piece of other, d ticks behind one of one, clashes with it -/
def clashB (one other : List Int) (d : Nat) : Bool := ((one.drop d).zip other).any fun p => p.1 == p.2 && p.1 != -1
def barsN (one other : List Int) : List Nat := (List.range' 1 (one.length - 1)).filter (clashB one other)
/-! ### lists step by step -/
theorem filter_range'_succ (f : Nat → Bool) (a n : Nat) : (List.range' a (n + 1)).filter f = (List.range' a n).filter f ++ (if f (a + n) = true then [a + n] else []) := by
  rw [List.range'_concat, List.filter_append, Nat.one_mul]
  congr 1
  by_cases h : f (a + n) = true
  · rw [if_pos h, List.filter_cons_of_pos h]; rfl
  · rw [if_neg h, List.filter_cons_of_neg h]; rfl
/-- the bars found below 1 + n -/
def barsTo (one other : List Int) (n : Nat) : List Nat := (List.range' 1 n).filter (clashB one other)
theorem barsTo_len (one other : List Int) (n : Nat) : (barsTo one other n).length ≤ n := by
  unfold barsTo
  refine Nat.le_trans (List.length_filter_le _ _) ?_
  rw [List.length_range']
  exact Nat.le_refl _
abbrev nV (l : List Nat) : List V := l.map fun d => V.int (d : Nat)
theorem barsTo_yes {one other : List Int} {n : Nat} (h : clashB one other (1 + n) = true) : nV (barsTo one other (n + 1)) = nV (barsTo one other n) ++ [.int ((1 : Int) + n)] := by
  unfold nV barsTo
  rw [filter_range'_succ, if_pos h, List.map_append]
  have e : (((1 + n : Nat) : Int)) = (1 : Int) + n := by omega
  simp only [List.map_cons, List.map_nil, e]
theorem barsTo_no {one other : List Int} {n : Nat} (h : clashB one other (1 + n) = false) : barsTo one other (n + 1) = barsTo one other n := by
  unfold barsTo
  rw [filter_range'_succ, if_neg (by rw [h]; exact Bool.false_ne_true), List.append_nil]
/-- the pairs of a zip, looked at in turn -/
def hitsTo (one other : List Int) (d n : Nat) : List Bool := (((one.drop d).zip other).take n).map fun p => p.1 == p.2 && p.1 != -1
theorem hits_any (one other : List Int) (d : Nat) : (hitsTo one other d (min (one.drop d).length other.length)).any id = clashB one other d := by
  unfold hitsTo clashB
  rw [List.take_of_length_le (by rw [List.length_zip]; exact Nat.le_refl _), List.any_map]
  rfl
theorem hits_succ {one other : List Int} {d n : Nat} {x y : Int} (h1 : (one.drop d)[n]? = some x) (h2 : other[n]? = some y) : hitsTo one other d (n + 1) = hitsTo one other d n ++ [x == y && x != -1] := by
  unfold hitsTo
  rw [List.take_add_one, List.getElem?_zip_eq_some (z := (x, y)) |>.mpr ⟨h1, h2⟩, List.map_append]
  rfl
theorem hits_len (one other : List Int) (d n : Nat) : (hitsTo one other d n).length ≤ n := by
  unfold hitsTo
  rw [List.length_map, List.length_take]
  exact Nat.min_le_left _ _
end Sg
set_option Elab.async false
set_option linter.all false
set_option maxRecDepth 100000
set_option maxHeartbeats 4000000
namespace Sg
open PySem PySem.Spec PyProof.Rows L2
theorem walk_zipT {K : PySem.W.Frag} {a b : Addr} {xs ys : List V} {n : Nat} (hn : n = min xs.length ys.length) :
    Walk (RZ.ItzT K a b) n (fun H => SqT K H a xs ∧ SqT K H b ys) (YPair (fun i => xs[i]?) (fun i => ys[i]?)) := by
  subst hn
  constructor
  · intro i H hi q
    have h1 : i < xs.length := by omega
    have h2 : i < ys.length := by omega
    exact ⟨xs, ys, xs[i], ys[i], q.1, q.2, List.getElem?_eq_getElem h1, List.getElem?_eq_getElem h2⟩
  · intro H q
    exact ⟨xs, ys, q.1, q.2, by omega⟩
  · rintro i H v H' hi q ⟨T, x, z, h1, h2, h3, h4, h5⟩
    exact ⟨T, x, z, h1, h2, h3, h4 xs q.1, h5 ys q.2⟩
theorem cut_from (xs : List V) (d : Nat) : cutV xs (some (d : Int)) none = xs.drop d := by
  unfold cutV
  rw [HT.sIx_nat, HT.sIx_none]
  rcases Nat.le_total d xs.length with h | h
  · rw [Nat.min_eq_left h]
    exact List.take_of_length_le (by rw [List.length_drop]; exact Nat.le_refl _)
  · rw [Nat.min_eq_right h, List.drop_of_length_le (Nat.le_refl _), List.drop_of_length_le h]
    exact List.take_nil
section
variable {P : Program} {w : World} {K : PySem.W.Frag} {mg : Str → Option Value} {base : Heap}
theorem tyT {H : Hp} {a : Addr} {xs : List V} (h : SqT K H a xs) : TyX K H (.ref a) (.type "tuple") := by
  rcases h with (h | ⟨o, h⟩) | ⟨o, _, _, h, hc, _⟩
  · exact .base (.tup h)
  · exact .fTuple h
  · exact .kTuple h hc
/-- the module's numbers -/
structure Nums (mg : Str → Option Value) : Prop where
  nowhere : ∃ t, mg "NOWHERE" = some (.int (-1) t)
  stations : ∃ t, mg "STATIONS" = some (.int 10 t)
  most : ∃ t, mg "MOST_ITEMS" = some (.int 60 t)
def inR (x : Int) : Bool := decide (-1 ≤ x) && decide (x ≤ 9)
end
end Sg
set_option Elab.async false
set_option linter.all false
set_option maxRecDepth 100000
set_option maxHeartbeats 4000000
namespace Sg
open PySem PySem.Spec PyProof.Rows L2
/-! ## data that is shown -/
/-- data made of small ints, in lists and tuples, no deeper than n, of bulk b at most -/
structure Small (d : PyData) (n b : Nat) : Prop where
  sh : d.showable = true
  nd : d.hasDict = false
  dp : d.depth ≤ n
  lv : d.leavesShort 15 = true
  bk : d.bulk ≤ b
  ly : d.canLay0 = true
structure SmallAll (ds : List PyData) (n b : Nat) : Prop where
  sh : PyData.showableAll ds = true
  nd : PyData.hasDictAll ds = false
  dp : PyData.depthAll ds ≤ n
  lv : PyData.leavesShortAll 15 ds = true
  bk : PyData.bulkAll ds ≤ b
  ly : PyData.canLayAll0 ds = true
theorem Small.shows {d : PyData} {n b : Nat} (h : Small d n b) (hn : n ≤ 40) (hb : b ≤ 900000) : Shows d := by
  refine ⟨h.sh, h.nd, Nat.le_trans h.dp hn, ?_⟩
  have h1 := PyData.shown_le_bulk 15 (by decide) d h.lv
  have h2 := h.bk
  have h3 : (15 + 2) * d.bulk ≤ (15 + 2) * 900000 := Nat.mul_le_mul_left _ (Nat.le_trans h2 hb)
  have h4 : sizeLine = 16777216 := sizeLine_eq
  omega
theorem Small.shaped {d : PyData} {n b : Nat} (h : Small d n b) (hn : n ≤ 64) : SeqAt.shaped d = true := by
  unfold SeqAt.shaped
  rw [h.ly, decide_eq_true (Nat.le_trans h.dp hn)]
  rfl
theorem Small.list {ds : List PyData} {n b : Nat} (h : SmallAll ds n b) : Small (.list ds) (n + 1) b :=
  ⟨by simpa only [PyData.showable] using h.sh, by simpa only [PyData.hasDict] using h.nd, by simpa only [PyData.depth] using Nat.succ_le_succ h.dp,
    by simpa only [PyData.leavesShort] using h.lv, by simpa only [PyData.bulk] using h.bk, by simpa only [PyData.canLay0] using h.ly⟩
theorem Small.tuple {ds : List PyData} {n b : Nat} (h : SmallAll ds n b) : Small (.tuple ds) (n + 1) b :=
  ⟨by simpa only [PyData.showable] using h.sh, by simpa only [PyData.hasDict] using h.nd, by simpa only [PyData.depth] using Nat.succ_le_succ h.dp,
    by simpa only [PyData.leavesShort] using h.lv, by simpa only [PyData.bulk] using h.bk, by simpa only [PyData.canLay0] using h.ly⟩
theorem SmallAll.nil {n b : Nat} : SmallAll [] n b := ⟨by simp only [PyData.showableAll], by simp only [PyData.hasDictAll], by simp only [PyData.depthAll]; exact Nat.zero_le _,
  by simp only [PyData.leavesShortAll], by simp only [PyData.bulkAll]; exact Nat.zero_le _, by simp only [PyData.canLayAll0]⟩
theorem SmallAll.cons {d : PyData} {ds : List PyData} {n b c : Nat} (h : Small d n b) (r : SmallAll ds n c) : SmallAll (d :: ds) n (b + 1 + c) :=
  ⟨by simp only [PyData.showableAll, h.sh, r.sh, Bool.and_self], by simp only [PyData.hasDictAll, h.nd, r.nd, Bool.or_self], by simp only [PyData.depthAll]; exact Nat.max_le.mpr ⟨h.dp, r.dp⟩,
    by simp only [PyData.leavesShortAll, h.lv, r.lv, Bool.and_self], by simp only [PyData.bulkAll]; have h1 := h.bk; have h2 := r.bk; omega, by simp only [PyData.canLayAll0, h.ly, r.ly, Bool.and_self]⟩
theorem Small.int {i : Int} {n b : Nat} (h1 : -99999999999999 ≤ i) (h2 : i ≤ 99999999999999) : Small (.int i) n b := by
  refine ⟨?_, by simp only [PyData.hasDict], by simp only [PyData.depth]; exact Nat.zero_le _, ?_, by simp only [PyData.bulk]; exact Nat.zero_le _, by simp only [PyData.canLay0]⟩
  · simp only [PyData.showable, decide_eq_true_eq]
    have h3 : i.natAbs < 2 ^ 47 := by omega
    have h4 := PySem.Flt.log2_lt_of (show 0 < 47 by decide) h3
    omega
  · simp only [PyData.leavesShort, decide_eq_true_eq]
    have h6 : i.natAbs < 10 ^ 14 := by
      have e : (10 : Nat) ^ 14 = 100000000000000 := by decide
      rw [e]
      omega
    have h5 := int_text_length_le10 (k := 14) (by decide) h6
    show (Str.ofString (toString i)).length ≤ 15
    rw [PySem.ofString_length]
    exact h5
theorem Small.mono {d : PyData} {n m b c : Nat} (h : Small d n b) (hn : n ≤ m) (hb : b ≤ c) : Small d m c := ⟨h.sh, h.nd, Nat.le_trans h.dp hn, h.lv, Nat.le_trans h.bk hb, h.ly⟩
theorem SmallAll.mono {d : List PyData} {n m b c : Nat} (h : SmallAll d n b) (hn : n ≤ m) (hb : b ≤ c) : SmallAll d m c := ⟨h.sh, h.nd, Nat.le_trans h.dp hn, h.lv, Nat.le_trans h.bk hb, h.ly⟩
abbrev iD (ns : List Int) : List PyData := ns.map PyData.int
theorem SmallAll.ints {n : Nat} : ∀ (ns : List Int), (∀ x ∈ ns, -99999999999999 ≤ x ∧ x ≤ 99999999999999) → SmallAll (iD ns) n ns.length
  | [], _ => .nil
  | x :: r, h => by
    have h1 := h x List.mem_cons_self
    have h2 := SmallAll.cons (Small.int (n := n) (b := 0) h1.1 h1.2) (SmallAll.ints r fun y hy => h y (List.mem_cons_of_mem _ hy))
    exact h2.mono (Nat.le_refl _) (by show 0 + 1 + r.length ≤ r.length + 1; omega)
abbrev nI (l : List Nat) : List Int := l.map fun d => ((d : Nat) : Int)
theorem nV_eq (l : List Nat) : nV l = (nI l).map V.int := by rw [List.map_map]; rfl
section
variable {P : Program} {w : World} {K : PySem.W.Frag} {mg : Str → Option Value} {base : Heap}
/-! ### _law_same -/
def spSame (K : PySem.W.Frag) : Sp := fun vs H Q _ => ∃ (a b : Addr) (d : PyData), vs = [.ref a, .ref b] ∧ Dp K H (.ref a) d ∧ Dp K H (.ref b) d ∧ Shows d ∧ Q (.bl true) H
theorem PenAt.upd {H : Hp} {p q : Addr} {o : HO} (h : PenAt H p) (n : p ≠ q) : PenAt (upd H q o) p := by
  obtain ⟨a, b, c, h1, h2⟩ := h
  exact ⟨a, b, c, by rw [upd_ne n]; exact h1, h2⟩
theorem PenAt.ne {H : Hp} {p q : Addr} (h : PenAt H p) (n : H q = none) : p ≠ q := by
  obtain ⟨a, b, c, h1, _⟩ := h
  exact ne_of_none h1 n
end
end Sg
set_option Elab.async false
set_option linter.all false
set_option maxRecDepth 100000
set_option maxHeartbeats 4000000
namespace Sg
open PySem PySem.Spec PyProof.Rows L2
/-! ## data of ints and tuples alone -/
section
variable {K : PySem.W.Frag} {H H' : Hp}
mutual
inductive Tp (K : PySem.W.Frag) (H : Hp) : V → PyData → Prop
  | int (i : Int) : Tp K H (.int i) (.int i)
  | tu {a : Addr} {xs : List V} {ds : List PyData} : SqT K H a xs → TpAll K H xs ds → Tp K H (.ref a) (.tuple ds)
inductive TpAll (K : PySem.W.Frag) (H : Hp) : List V → List PyData → Prop
  | no : TpAll K H [] []
  | on {v : V} {vs : List V} {d : PyData} {ds : List PyData} : Tp K H v d → TpAll K H vs ds → TpAll K H (v :: vs) (d :: ds)
end
mutual
theorem Tp.dp : ∀ {v : V} {d : PyData}, Tp K H v d → Dp K H v d
  | _, _, .int i => .int i
  | _, _, .tu h r => .tup h (TpAll.dp r)
theorem TpAll.dp : ∀ {v : List V} {d : List PyData}, TpAll K H v d → DpAll K H v d
  | _, _, .no => .nil
  | _, _, .on a r => .cons (Tp.dp a) (TpAll.dp r)
end
/-- all tuples and all instances are as they were -/
structure St (K : PySem.W.Frag) (H H' : Hp) : Prop where
  tu : ∀ a xs, SqT K H a xs → SqT K H' a xs
  ob : ∀ a C dx fs, H a = some (.ins C dx fs) → H' a = some (.ins C dx fs)
theorem St.trans {H2 : Hp} (a : St K H H') (b : St K H' H2) : St K H H2 := ⟨fun _ _ h => b.tu _ _ (a.tu _ _ h), fun _ _ _ _ h => b.ob _ _ _ _ (a.ob _ _ _ _ h)⟩
theorem St.of (e : Same H H') : St K H H' := ⟨fun _ _ h => Same.tup e h, fun _ _ _ _ h => e _ _ h⟩
theorem St.but {p : Addr} {ys : List V} (e : But p H H') (hp : H p = some (.lst ys)) : St K H H' :=
  ⟨fun _ _ h => But.tup e hp h, fun a C dx fs h => e _ _ (fun z => by rw [z, hp] at h; exact nomatch h) h⟩
mutual
theorem Tp.stayT (e : ∀ a xs, SqT K H a xs → SqT K H' a xs) : ∀ {v : V} {d : PyData}, Tp K H v d → Tp K H' v d
  | _, _, .int i => .int i
  | _, _, .tu h r => .tu (e _ _ h) (TpAll.stayT e r)
theorem TpAll.stayT (e : ∀ a xs, SqT K H a xs → SqT K H' a xs) : ∀ {v : List V} {d : List PyData}, TpAll K H v d → TpAll K H' v d
  | _, _, .no => .no
  | _, _, .on a r => .on (Tp.stayT e a) (TpAll.stayT e r)
end
theorem tu_ins {p C dx : Addr} {fs : List (Str × V)} {o : HO} (hp : H p = some (.ins C dx fs)) : ∀ a xs, SqT K H a xs → SqT K (upd H p o) a xs := by
  intro a xs h
  have ne : ∀ u, H a = some u → (∀ C dx fs, u ≠ .ins C dx fs) → a ≠ p := fun u hu n z => by
    rw [z, hp] at hu
    exact n _ _ _ (Option.some.inj hu).symm
  exact h.imp (fun z => z.imp (fun z => by rw [upd_ne (ne _ z (fun _ _ _ q => nomatch q))]; exact z) fun ⟨u, z⟩ => ⟨u, by rw [upd_ne (ne _ z (fun _ _ _ q => nomatch q))]; exact z⟩) id
mutual
theorem Tp.stay (e : St K H H') : ∀ {v : V} {d : PyData}, Tp K H v d → Tp K H' v d
  | _, _, .int i => .int i
  | _, _, .tu h r => .tu (e.tu _ _ h) (TpAll.stay e r)
theorem TpAll.stay (e : St K H H') : ∀ {v : List V} {d : List PyData}, TpAll K H v d → TpAll K H' v d
  | _, _, .no => .no
  | _, _, .on a r => .on (Tp.stay e a) (TpAll.stay e r)
end
theorem TpAll.len : ∀ {vs : List V} {ds : List PyData}, TpAll K H vs ds → vs.length = ds.length
  | _, _, .no => rfl
  | _, _, .on _ r => congrArg (· + 1) (TpAll.len r)
theorem TpAll.at : ∀ {vs : List V} {ds : List PyData} {i : Nat} {v : V}, TpAll K H vs ds → vs[i]? = some v → ∃ d, ds[i]? = some d ∧ Tp K H v d
  | _, _, 0, _, .on a _, e => by cases e; exact ⟨_, rfl, a⟩
  | _, _, i + 1, _, .on _ r, e => TpAll.at (i := i) r e
theorem TpAll.add : ∀ {vs us : List V} {ds es : List PyData}, TpAll K H vs ds → TpAll K H us es → TpAll K H (vs ++ us) (ds ++ es)
  | _, _, _, _, .no, b => b
  | _, _, _, _, .on a r, b => .on a (TpAll.add r b)
theorem TpAll.cut : ∀ {vs : List V} {ds : List PyData} (n : Nat), TpAll K H vs ds → TpAll K H (vs.take n) (ds.take n)
  | _, _, 0, _ => .no
  | _, _, _ + 1, .no => .no
  | _, _, n + 1, .on a r => .on a (TpAll.cut n r)
theorem TpAll.off : ∀ {vs : List V} {ds : List PyData} (n : Nat), TpAll K H vs ds → TpAll K H (vs.drop n) (ds.drop n)
  | _, _, 0, r => r
  | _, _, _ + 1, .no => .no
  | _, _, n + 1, .on _ r => TpAll.off n r
theorem TpAll.ints : ∀ (ns : List Int), TpAll K H (ns.map V.int) (iD ns)
  | [] => .no
  | x :: r => .on (.int x) (TpAll.ints r)
theorem TpAll.isInts : ∀ {vs : List V} {ns : List Int}, TpAll K H vs (iD ns) → vs = ns.map V.int
  | _, [], .no => rfl
  | _, _ :: _, .on (.int _) r => by rw [TpAll.isInts r]; rfl
theorem Tp.ofInts {a : Addr} {ns : List Int} (h : SqT K H a (ns.map V.int)) : Tp K H (.ref a) (.tuple (iD ns)) := .tu h (TpAll.ints ns)
theorem Tp.toInts {v : V} {ns : List Int} (h : Tp K H v (.tuple (iD ns))) : ∃ a, v = .ref a ∧ SqT K H a (ns.map V.int) := by
  cases h with
  | tu h r => exact ⟨_, rfl, by rw [← TpAll.isInts r]; exact h⟩
theorem Tp.toTup {v : V} {ds : List PyData} (h : Tp K H v (.tuple ds)) : ∃ a xs, v = .ref a ∧ SqT K H a xs ∧ TpAll K H xs ds := by
  cases h with
  | tu h r => exact ⟨_, _, rfl, h, r⟩
end
/-! ## lines -/
/-- one to three works -/
structure GoodL (ws : List (List Int)) : Prop where
  least : 1 ≤ ws.length
  few : ws.length ≤ 3
  work : ∀ w ∈ ws, IsWork w
abbrev tD (ns : List Int) : PyData := .tuple (iD ns)
abbrev tDs (ws : List (List Int)) : List PyData := ws.map tD
abbrev cellD (a b : List Int) : PyData := tD (nI (barsN a b))
abbrev rowD (a : List Int) (ws : List (List Int)) : PyData := .tuple (ws.map (cellD a))
abbrev barD (ws : List (List Int)) : List PyData := ws.map fun a => rowD a ws
/-- the bars of all, row by row -/
def rowB (a : List Int) (ws : List (List Int)) : List Int := ws.flatMap fun b => nI (barsN a b)
def allB (ws vs : List (List Int)) : List Int := ws.flatMap fun a => rowB a vs
/-- the greatest, or 0 -/
structure Top (l : List Int) (m : Int) : Prop where
  pos : 0 ≤ m
  le : ∀ x ∈ l, x ≤ m
  eq : m = 0 ∨ m ∈ l
theorem Top.uniq {l k : List Int} {m n : Int} (h : Top l m) (g : Top k n) (e : ∀ x, x ∈ l ↔ x ∈ k) : m = n := by
  have a : m ≤ n := by
    rcases h.eq with z | z
    · rw [z]; exact g.pos
    · exact g.le _ ((e _).mp z)
  have b : n ≤ m := by
    rcases g.eq with z | z
    · rw [z]; exact h.pos
    · exact h.le _ ((e _).mpr z)
  omega
/-! ### the object -/
def lf (t b : Addr) (r : Int) : List (Str × V) := putF "_reach" (.int r) (putF "_bars" (.ref b) (putF "_works" (.ref t) []))
theorem k1 : ¬ (("_works" : Str) = "_bars") := by decide +kernel
theorem k2 : ¬ (("_works" : Str) = "_reach") := by decide +kernel
theorem k3 : ¬ (("_bars" : Str) = "_reach") := by decide +kernel
theorem lf_works (t b : Addr) (r : Int) : (lf t b r).lookup ("_works" : Str) = some (.ref t) := by
  unfold lf
  rw [lookup_putF, if_neg k2, lookup_putF, if_neg k1, lookup_putF, if_pos rfl]
theorem lf_bars (t b : Addr) (r : Int) : (lf t b r).lookup ("_bars" : Str) = some (.ref b) := by
  unfold lf
  rw [lookup_putF, if_neg k3, lookup_putF, if_pos rfl]
/-- a Line of these works stands at a -/
def LineAt (K : PySem.W.Frag) (C : Addr) (H : Hp) (a : Addr) (ws : List (List Int)) : Prop :=
  ∃ (dx t b : Addr) (r : Int), H a = some (.ins C dx (lf t b r)) ∧ Tp K H (.ref t) (.tuple (tDs ws)) ∧ Tp K H (.ref b) (.tuple (barD ws)) ∧ Top (allB ws ws) r ∧ GoodL ws
theorem LineAt.ins {K : PySem.W.Frag} {C a : Addr} {H : Hp} {ws : List (List Int)} (h : LineAt K C H a ws) : InsAt H C a := by
  obtain ⟨dx, t, b, r, h1, _⟩ := h
  exact ⟨_, _, h1⟩
theorem LineAt.good {K : PySem.W.Frag} {C a : Addr} {H : Hp} {ws : List (List Int)} (h : LineAt K C H a ws) : GoodL ws := by
  obtain ⟨dx, t, b, r, _, _, _, _, g⟩ := h
  exact g
theorem LineAt.stay {K : PySem.W.Frag} {C a : Addr} {H H' : Hp} {ws : List (List Int)} (e : St K H H') (h : LineAt K C H a ws) : LineAt K C H' a ws := by
  obtain ⟨dx, t, b, r, h1, h2, h3, h4, h5⟩ := h
  exact ⟨dx, t, b, r, e.ob _ _ _ _ h1, h2.stay e, h3.stay e, h4, h5⟩
theorem TpAll.works {K : PySem.W.Frag} {H : Hp} {vs : List V} {ws : List (List Int)} {i : Nat} {v : V} (h : TpAll K H vs (tDs ws)) (e : vs[i]? = some v) : ∃ w a, ws[i]? = some w ∧ v = .ref a ∧ SqT K H a (w.map V.int) := by
  obtain ⟨d, hd, t⟩ := h.at e
  rw [List.getElem?_map] at hd
  obtain ⟨w, hw, rfl⟩ := Option.map_eq_some_iff.mp hd
  obtain ⟨a, rfl, hs⟩ := t.toInts
  exact ⟨w, a, hw, rfl, hs⟩
end Sg
set_option Elab.async false
set_option linter.all false
set_option maxRecDepth 100000
set_option maxHeartbeats 4000000
namespace Sg
open PySem PySem.Spec PyProof.Rows L2
theorem call_tuple_ofK {X : Cx} {K : PySem.W.Frag} (hK : X.K = K) : CallR X (.type "tuple") (fun xs H Q => ∃ p ys, xs = [.ref p] ∧ ((SqL K H p ys ∧ ∀ l, H l = none → Q (.ref l) (upd H l (.tup ys))) ∨ (SqT K H p ys ∧ Q (.ref p) H))) := by
  subst hK; exact call_tuple_of
theorem pi_tupK {X : Cx} {K : PySem.W.Frag} {tg l : Expr} {tl : TE} (hK : X.K = K) (hl : PE X l tl) : PI X tg l (iTup K tl) := by
  subst hK; exact pi_tup hl
/-! ## a list of tuple data that grows -/
def Grow (K : PySem.W.Frag) (H1 : Hp) (D : Addr) (ds : List PyData) (i : Nat) (H' : Hp) : Prop := Same H1 H' ∧ ∃ acc, H' D = some (.lst acc) ∧ TpAll K H' acc (ds.take i)
theorem Grow.zero {K : PySem.W.Frag} {H1 : Hp} {D : Addr} {ds : List PyData} (hD : H1 D = none) : Grow K H1 D ds 0 (upd H1 D (.lst [])) :=
  ⟨same_new hD, [], upd_same, .no⟩
theorem Grow.next {K : PySem.W.Frag} {H1 H' H'' : Hp} {D : Addr} {ds : List PyData} {i : Nat} {d : PyData} {v : V} (hD : H1 D = none) (hz : ds.length ≤ 1000) (h : Grow K H1 D ds i H') (e : Same H' H'') (hd : ds[i]? = some d) (t : Tp K H'' v d) :
    ∃ acc, H'' D = some (.lst acc) ∧ acc.length < sizeLine ∧ Grow K H1 D ds (i + 1) (upd H'' D (.lst (acc ++ [v]))) := by
  obtain ⟨s1, acc, h1, h2⟩ := h
  have hD2 := e _ _ h1
  have st : St K H'' (upd H'' D (.lst (acc ++ [v]))) := .but (.upd) hD2
  refine ⟨acc, hD2, ?_, fun b o q => ?_, _, upd_same, ?_⟩
  · have z := h2.len
    have z2 : i < ds.length := (List.getElem?_eq_some_iff.mp hd).1
    rw [List.length_take] at z
    exact small1000 (by omega)
  · rw [upd_ne (ne_of_none q hD)]
    exact e _ _ (s1 _ _ q)
  · rw [List.take_add_one, hd]
    exact ((h2.stay (.of e)).stay st).add (.on (t.stay st) .no)
theorem Grow.done {K : PySem.W.Frag} {H1 H' : Hp} {D : Addr} {ds : List PyData} {n : Nat} (h : Grow K H1 D ds n H') (hn : n = ds.length) : Same H1 H' ∧ ∃ acc, H' D = some (.lst acc) ∧ TpAll K H' acc ds := by
  obtain ⟨s1, acc, h1, h2⟩ := h
  rw [hn, List.take_length] at h2
  exact ⟨s1, acc, h1, h2⟩
theorem Tp.new {K : PySem.W.Frag} {H : Hp} {l : Addr} {acc : List V} {ds : List PyData} (nl : H l = none) (t : TpAll K H acc ds) : Tp K (upd H l (.tup acc)) (.ref l) (.tuple ds) :=
  .tu (.of upd_same) (t.stay (.of (same_new nl)))
theorem GoodL.mem {ws : List (List Int)} (h : GoodL ws) {i : Nat} {w : List Int} (e : ws[i]? = Option.some w) : IsWork w := h.work w (List.mem_of_getElem? e)
theorem GoodL.lt {ws : List (List Int)} (h : GoodL ws) : (barD ws).length ≤ 1000 := by
  have := h.few
  rw [List.length_map]
  omega
/-- what the class has -/
structure LC (K : PySem.W.Frag) (mg : Str → Option Value) (C : Addr) : Prop where
  cl : Cls K C
  nW : NoAttr K C "_works"
  nB : NoAttr K C "_bars"
  nR : NoAttr K C "_reach"
  mgC : mg "Line" = some (.ref C)
end Sg
set_option Elab.async false
set_option linter.all false
set_option maxRecDepth 100000
set_option maxHeartbeats 4000000
namespace Sg
open PySem PySem.Spec PyProof.Rows L2
/-! ## a tuple times 0, 1 or more -/
theorem tuple_mulOne (l : Addr) (items : Array Value) (n : Nat) (dd : Option Addr) (sl : Array (Option Value)) (u : Tok) :
    Meets (Builtin.«tuple.__mul__» ⟨[.ref l, .int 1 u], []⟩) (fun _ R s => s.heap.get? l = some { cls := .type "tuple", dict := dd, data := .seq items n, slots := sl } ∧ R (.ok (.ret (Value.ref l))) s) :=
  .of_wp fun prog w A R s h => by
    obtain ⟨hp, g, d, tk, os⟩ := s
    obtain ⟨hl, h⟩ := h
    have f1 := AutoSeq1.idx_int
    have ht : Shared.TypeIs ⟨hp, g, d, tk, os⟩ (.ref l) "tuple" := ⟨_, hl, rfl⟩
    wp_walk using wpAny_loadPart' hl, wpAny_typeOf ht
    repeat (first
      | (refine wpAny_ite_true (by rw [Bool.or_eq_true]; exact .inr rfl) ?_; wp_walk using wpAny_loadPart' hl, wpAny_typeOf ht)
      | (refine wpAny_ite_true rfl ?_; wp_walk using wpAny_loadPart' hl, wpAny_typeOf ht)
      | (refine wpAny_ite_false (by decide) ?_; wp_walk using wpAny_loadPart' hl, wpAny_typeOf ht))
    exact ⟨_, rfl, h⟩
theorem tuple_mulNone (l : Addr) (items : Array Value) (n : Nat) (dd : Option Addr) (sl : Array (Option Value)) (u : Tok) (c1 : items.isEmpty = false) :
    Meets (Builtin.«tuple.__mul__» ⟨[.ref l, .int 0 u], []⟩) (fun _ R s => s.heap.get? l = some { cls := .type "tuple", dict := dd, data := .seq items n, slots := sl } ∧
      R (.ok (.ret (Value.ref s.heap.objs.size))) { s with heap := s.heap.push { cls := Value.type "tuple", data := Data.seq #[] }, toks := s.toks }) :=
  .of_wp fun prog w A R s h => by
    obtain ⟨hp, g, d, tk, os⟩ := s
    obtain ⟨hl, h⟩ := h
    have f1 := AutoSeq1.idx_int
    have c2 : (items.isEmpty || (0 : Int) == 1) = false := by rw [c1]; rfl
    wp_walk using wpAny_loadPart' hl
    repeat (first
      | (refine wpAny_ite_false (by rw [c2]; exact Bool.false_ne_true) ?_; wp_walk using wpAny_loadPart' hl)
      | (refine wpAny_ite_true rfl ?_; wp_walk using wpAny_loadPart' hl)
      | (refine wpAny_ite_false (by decide) ?_; wp_walk using wpAny_loadPart' hl))
    exact ⟨_, rfl, h⟩
def rRepN (K : PySem.W.Frag) : R2 := fun x y H Q => ∃ (l : Addr) (k : Nat) (xs : List V), x = .ref l ∧ y = .int k ∧ SqT K H l xs ∧ xs ≠ [] ∧ k ≤ 1000 ∧ xs.length ≤ 1000 ∧
  (k = 1 → Q (.ref l) H) ∧ (k ≠ 1 → ∀ p, H p = none → Q (.ref p) (upd H p (.tup (List.replicate k xs).flatten)))
theorem op_repN {X : Cx} : OpR X (binaryOp .Mult) (rRepN X.K) := by
  intro pins s σ H x y v u Q I rx ry h
  obtain ⟨l, k, xs, rfl, rfl, hT, hne, h2, hz, q1, q2⟩ := h
  by_cases h1 : 2 ≤ k
  · refine op_repT pins s σ H _ _ v u Q I rx ry ⟨l, k, xs, rfl, rfl, hT, hne, by omega, by omega, hz, fun p np => ?_⟩
    rw [Int.toNat_natCast]
    exact q2 (by omega) p np
  cases rx
  obtain ⟨t, rfl⟩ := ry
  obtain ⟨its, r, ⟨⟨cls, dd, data, sl⟩, ho, hc, n, hd⟩, hs⟩ := I.tuple hT
  simp only at hc hd
  subst hc hd
  have hle : its.length = xs.length := r.length.symm
  have hn : its ≠ [] := fun e => hne (by
    rw [e] at hle
    exact List.eq_nil_of_length_eq_zero hle.symm)
  have hi : its.toArray.isEmpty = false := by
    cases its with
    | nil => exact absurd rfl hn
    | cons a b => rfl
  rcases (show k = 0 ∨ k = 1 by omega) with rfl | rfl
  · refine wpAny_binaryOp_repeat_ref (T := "tuple") (U := "int") (by decide) ⟨_, ho, rfl⟩ (fun s' => typeIs_int s' _ t) noFill_tuple_mul F.fills_int_mul F.slot_int_rmul repeat_tuple PySem.F.slot_int_index.lookup
      (call_meets F.slot_int_rmul (typeIs_int s _ t) F.entry_int_rmul (F.args_int_rmul_2 _ _) (int_rmul_tuple _ t l its.toArray n dd sl)
        ⟨ho, rfl, ⟨_, ho, rfl⟩, call_meets F.slot_tuple_mul ⟨_, ho, rfl⟩ F.entry_tuple_mul (F.args_tuple_mul_2 _ _) (tuple_mulNone l its.toArray n dd sl t hi) ⟨ho, ?_⟩⟩)
    refine ⟨.ref s.heap.objs.size, _, I.laid (t' := s.toks) (o := .tup (List.replicate 0 xs).flatten) (fun b ob q => Heap.get?_push_of_some _ q) (Nat.le_refl _) ?_, rfl, q2 (by decide) _ (I.hok.fresh (Nat.le_refl _))⟩
    exact ⟨Nat.zero_le _, [], .nil, IsTup.new _ _⟩
  · refine wpAny_binaryOp_repeat_ref (T := "tuple") (U := "int") (by decide) ⟨_, ho, rfl⟩ (fun s' => typeIs_int s' _ t) noFill_tuple_mul F.fills_int_mul F.slot_int_rmul repeat_tuple PySem.F.slot_int_index.lookup
      (call_meets F.slot_int_rmul (typeIs_int s _ t) F.entry_int_rmul (F.args_int_rmul_2 _ _) (int_rmul_tuple _ t l its.toArray n dd sl)
        ⟨ho, rfl, ⟨_, ho, rfl⟩, call_meets F.slot_tuple_mul ⟨_, ho, rfl⟩ F.entry_tuple_mul (F.args_tuple_mul_2 _ _) (tuple_mulOne l its.toArray n dd sl t) ⟨ho, ?_⟩⟩)
    exact ⟨.ref l, H, I, rfl, q1 rfl⟩
/-- .. asked once for all -/
def rRepS (K : PySem.W.Frag) : R2 := fun x y H Q => ∃ (l : Addr) (k : Nat) (xs : List V), x = .ref l ∧ y = .int k ∧ SqT K H l xs ∧ xs ≠ [] ∧ k ≤ 1000 ∧ xs.length ≤ 1000 ∧
  ∀ H' u, Same H H' → SqT K H' u (List.replicate k xs).flatten → Q (.ref u) H'
theorem op_repS {X : Cx} : OpR X (binaryOp .Mult) (rRepS X.K) := by
  intro pins s σ H x y v u Q I rx ry h
  obtain ⟨l, k, xs, rfl, rfl, hT, hne, h2, hz, q⟩ := h
  refine op_repN pins s σ H _ _ v u Q I rx ry ⟨l, k, xs, rfl, rfl, hT, hne, h2, hz, fun z => q H l (fun _ _ h => h) ?_, fun _ p np => q _ p (same_new np) (.of upd_same)⟩
  subst z
  rw [show (List.replicate 1 xs).flatten = xs from by simp]
  exact hT
/-! ## a part of a tuple, the whole of it too -/
end Sg
set_option Elab.async false
set_option linter.all false
set_option maxRecDepth 100000
set_option maxHeartbeats 4000000
namespace Sg
open PySem PySem.Spec PyProof.Rows L2
theorem tup_upd {K : PySem.W.Frag} {H : Hp} {p a : Addr} {xs : List V} {u o : HO} (hp : H p = some u) (hu : ∀ ys, HO.tup ys ≠ u) (hv : ∀ ob ys, HO.frz ob (.tup ys) ≠ u) (h : SqT K H a xs) : SqT K (upd H p o) a xs := by
  rcases h with (h | ⟨ob, h⟩) | h
  · exact .inl (.inl (by rw [upd_ne (ne_of h hp (hu _))]; exact h))
  · exact .inl (.inr ⟨ob, by rw [upd_ne (ne_of h hp (hv _ _))]; exact h⟩)
  · exact .inr h
theorem ixN_nat {n j : Nat} (h : j < n) : ixN n (j : Int) = some j := by
  unfold ixN
  rw [if_pos (by omega), if_pos (by omega), Int.toNat_natCast]
theorem ixN_end {n : Nat} (h : 0 < n) : ixN n (-1) = some (n - 1) := by
  unfold ixN
  rw [if_neg (by decide), if_pos (by omega)]
  congr 1
  omega
theorem eraseIdx_map {f : Int → V} : ∀ (l : List Int) (j : Nat), (l.map f).eraseIdx j = (l.eraseIdx j).map f
  | [], _ => by simp
  | _ :: _, 0 => by simp
  | a :: r, j + 1 => by
    rw [List.map_cons, List.eraseIdx_cons_succ, List.eraseIdx_cons_succ, List.map_cons, eraseIdx_map r j]
theorem PenAt.new {H : Hp} {p l : Addr} {o : HO} (h : PenAt H p) (n : H l = none) : PenAt (L2.upd H l o) p := h.upd (h.ne n)
theorem cut_to (xs : List V) (d : Nat) : cutV xs none (some (d : Int)) = xs.take d := by
  unfold cutV
  rw [HT.sIx_nat, HT.sIx_none]
  show (xs.drop 0).take (min d xs.length - 0) = _
  rw [List.drop_zero, Nat.sub_zero]
  rcases Nat.le_total d xs.length with h | h
  · rw [Nat.min_eq_left h]
  · rw [Nat.min_eq_right h, List.take_of_length_le h, List.take_of_length_le (Nat.le_refl _)]
theorem freeS {H H' : Hp} {t : Addr} (e : Same H H') (n : H' t = none) : H t = none := by
  rcases z : H t with _ | o
  · rfl
  · rw [e _ _ z] at n
    exact nomatch n
end Sg
set_option Elab.async false
set_option linter.all false
set_option maxRecDepth 100000
set_option maxHeartbeats 4000000
set_option Elab.async false
set_option linter.all false
set_option maxRecDepth 100000
set_option maxHeartbeats 4000000
namespace Sg
open PySem PySem.Spec PyProof.Rows L2 StX
/-! ## data compared -/
theorem eqv_ints : ∀ (xs ys : List Int), PyData.eqvAll (iD xs) (iD ys) = decide (xs = ys)
  | [], [] => by simp [PyData.eqvAll]
  | [], _ :: _ => by simp [PyData.eqvAll]
  | _ :: _, [] => by simp [PyData.eqvAll]
  | x :: xs, y :: ys => by
    show PyData.eqvAll (.int x :: iD xs) (.int y :: iD ys) = _
    rw [PyData.eqvAll, eqv_ints xs ys, PyData.eqv]
    by_cases h : x = y
    · subst h; simp
    · simp [h]
theorem eqv_tD (xs ys : List Int) : PyData.eqv (tD xs) (tD ys) = decide (xs = ys) := by
  show PyData.eqv (.tuple (iD xs)) (.tuple (iD ys)) = _
  rw [PyData.eqv, eqv_ints]
theorem eqv_tDs : ∀ (xs ys : List (List Int)), PyData.eqvAll (tDs xs) (tDs ys) = decide (xs = ys)
  | [], [] => by simp [PyData.eqvAll]
  | [], _ :: _ => by simp [PyData.eqvAll]
  | _ :: _, [] => by simp [PyData.eqvAll]
  | x :: xs, y :: ys => by
    show PyData.eqvAll (tD x :: tDs xs) (tD y :: tDs ys) = _
    rw [PyData.eqvAll, eqv_tDs xs ys, eqv_tD]
    by_cases h : x = y
    · subst h; simp
    · simp [h]
theorem lay_iD : ∀ (xs : List Int), PyData.canLayAll0 (iD xs) = true
  | [] => by simp [PyData.canLayAll0]
  | x :: r => by
    show PyData.canLayAll0 (.int x :: iD r) = true
    rw [PyData.canLayAll0, lay_iD r, PyData.canLay0]; rfl
theorem dep_iD : ∀ (xs : List Int), PyData.depthAll (iD xs) = 0
  | [] => by simp [PyData.depthAll]
  | x :: r => by
    show PyData.depthAll (.int x :: iD r) = 0
    rw [PyData.depthAll, dep_iD r, PyData.depth]; rfl
theorem lay_tDs : ∀ (xs : List (List Int)), PyData.canLayAll0 (tDs xs) = true
  | [] => by simp [PyData.canLayAll0]
  | x :: r => by
    show PyData.canLayAll0 (.tuple (iD x) :: tDs r) = true
    rw [PyData.canLayAll0, lay_tDs r, PyData.canLay0, lay_iD]; rfl
theorem dep_tDs : ∀ (xs : List (List Int)), PyData.depthAll (tDs xs) ≤ 1
  | [] => by simp [PyData.depthAll]
  | x :: r => by
    show PyData.depthAll (.tuple (iD x) :: tDs r) ≤ 1
    rw [PyData.depthAll, PyData.depth, dep_iD]
    exact Nat.max_le.mpr ⟨Nat.le_refl _, dep_tDs r⟩
theorem shaped_tDs (xs : List (List Int)) : SeqAt.shaped (.tuple (tDs xs)) = true := by
  unfold SeqAt.shaped
  have a : (PyData.tuple (tDs xs)).canLay0 = true := by rw [PyData.canLay0, lay_tDs]
  have b : (PyData.tuple (tDs xs)).depth ≤ 64 := by rw [PyData.depth]; have := dep_tDs xs; omega
  rw [a, decide_eq_true b]; rfl
end Sg
set_option Elab.async false
set_option linter.all false
set_option maxRecDepth 100000
set_option maxHeartbeats 4000000
set_option Elab.async false
set_option linter.all false
set_option maxRecDepth 100000
set_option maxHeartbeats 4000000
namespace Sg
open PySem PySem.Spec PyProof.Rows L2
/-! ## keys that are tuples of tuples -/
mutual
/-- the value v is the key k: an int, or a tuple of keys -/
inductive KeyAt (H : Hp) : NestedKey → V → Prop
  | int (i : Int) : KeyAt H (.num i) (.int i)
  | tup {a : Addr} {us : List V} {ks : List NestedKey} : H a = some (.tup us) → KeyAll H ks us → KeyAt H (.tup ks) (.ref a)
inductive KeyAll (H : Hp) : List NestedKey → List V → Prop
  | no : KeyAll H [] []
  | on {k : NestedKey} {v : V} {ks : List NestedKey} {us : List V} : KeyAt H k v → KeyAll H ks us → KeyAll H (k :: ks) (v :: us)
end
mutual
theorem KeyAt.keep {H H' : Hp} (e : ∀ a us, H a = some (.tup us) → H' a = some (.tup us)) : ∀ {k : NestedKey} {v : V}, KeyAt H k v → KeyAt H' k v
  | _, _, .int i => .int i
  | _, _, .tup h r => .tup (e _ _ h) (KeyAll.keep e r)
theorem KeyAll.keep {H H' : Hp} (e : ∀ a us, H a = some (.tup us) → H' a = some (.tup us)) : ∀ {ks : List NestedKey} {us : List V}, KeyAll H ks us → KeyAll H' ks us
  | _, _, .no => .no
  | _, _, .on a r => .on (KeyAt.keep e a) (KeyAll.keep e r)
end
mutual
theorem KeyAt.is {P : Program} {w : World} {H : Hp} {h : Heap} (ok : HOk P w H h) : ∀ {k : NestedKey} {v : V} {u : Value}, KeyAt H k v → RelV v u → NestedIs h k u
  | _, _, u, .int i, r => by
    obtain ⟨t, rfl⟩ := r
    exact .int i t
  | _, _, u, .tup (a := a) h' q, r => by
    obtain rfl : u = Value.ref a := r
    obtain ⟨_, its, rv, o, h1, h2, n, h3⟩ := (show ObjOk P w H h a (.tup _) from ok a _ h')
    exact .tup h1 h2 h3 (by rw [List.toList_toArray]; exact KeyAll.is ok q rv)
theorem KeyAll.is {P : Program} {w : World} {H : Hp} {h : Heap} (ok : HOk P w H h) : ∀ {ks : List NestedKey} {us : List V} {its : List Value}, KeyAll H ks us → Vals us its → NestedAll h ks its
  | _, _, _, .no, .nil => .nil
  | _, _, _, .on a r, .cons b q => .cons (KeyAt.is ok a b) (KeyAll.is ok r q)
end
/-! ## a dict with such keys: its rows (key, where the key stands, value) -/
abbrev Row := NestedKey × Addr × V
def DN (P : Program) (w : World) (a : Addr) (rs : List Row) : HO := .ext fun h => rs.length ≤ sizeLine ∧ (a == sysModules) = false ∧
  ∃ ys : List (NestedKey × Addr × Value), Paired (fun r y => r.1 = y.1 ∧ r.2.1 = y.2.1 ∧ RelV r.2.2 y.2.2) rs ys ∧
    ∃ o es ep, h.get? a = some o ∧ o.ExactDict ∧ o.data = .dict es ep ∧ es.toList = ys.map (entryOfKey (nestedKind P w)) ∧ (ys.map (·.1)).Nodup
def KeysIn (H : Hp) (rs : List Row) : Prop := ∀ r ∈ rs, KeyAt H r.1 (.ref r.2.1) ∧ r.1.depth ≤ 8
theorem KeysIn.keep {H H' : Hp} {rs : List Row} (h : KeysIn H rs) (e : ∀ a us, H a = some (.tup us) → H' a = some (.tup us)) : KeysIn H' rs := fun r hr => ⟨(h r hr).1.keep e, (h r hr).2⟩
abbrev RowRel : Row → NestedKey × Addr × Value → Prop := fun r y => r.1 = y.1 ∧ r.2.1 = y.2.1 ∧ RelV r.2.2 y.2.2
section
variable {P : Program} {w : World} {H : Hp} {h : Heap} {a : Addr} {rs : List Row}
theorem dn_of (ok : HOk P w H h) (e : H a = some (DN P w a rs)) (ks : KeysIn H rs) : rs.length ≤ sizeLine ∧ (a == sysModules) = false ∧ ∃ ys, Paired RowRel rs ys ∧ h.DictOfH (nestedKind P w) a ys := by
  obtain ⟨z, y, ys, r, o, es, ep, h1, h2, h3, h4, h5⟩ := (ok a _ e).1
  refine ⟨z, y, ys, r, o, es, ep, h1, h2, h3, h4, ?_, h5⟩
  have all : ∀ {l : List Row} {m : List (NestedKey × Addr × Value)}, Paired RowRel l m → KeysIn H l → ∀ x ∈ m, (nestedKind P w).is h x.1 x.2.1 := by
    intro l m q
    induction q with
    | nil => intro _ x hx; exact nomatch hx
    | @cons p q ps qs hq t ih =>
      intro hk x hx
      rcases List.mem_cons.mp hx with e | hx
      · subst e
        obtain ⟨k1, k2⟩ := hk p List.mem_cons_self
        have := k1.is ok (u := .ref p.2.1) rfl
        rw [hq.1, hq.2.1] at this
        exact ⟨this, by rw [← hq.1]; exact k2⟩
      · exact ih (fun r hr => hk r (List.mem_cons_of_mem _ hr)) x hx
  exact all r ks
end
section
variable {X : Cx} {pins : List (Addr × Obj)} {σ : L2.St} {H : Hp} {s : Shared} {a b : Addr} {k : NestedKey} {rs : List Row} {v : V} {r : Value} {A : Around} {E : Value → Shared → Prop}
/-- the key at b is looked for in the dict at a -/
structure NAt (P : Program) (w : World) (H : Hp) (a b : Addr) (k : NestedKey) (rs : List Row) : Prop where
  at_ : H a = some (DN P w a rs)
  keys : KeysIn H rs
  key : KeyAt H k (.ref b)
  deep : k.depth ≤ 8
theorem NAt.is {P : Program} {w : World} {h : Heap} (n : NAt P w H a b k rs) (ok : HOk P w H h) : (nestedKind P w).is h k b := ⟨n.key.is ok rfl, n.deep⟩
end
/-! ### as rules -/
section
variable {X : Cx} {o i e value : Expr} {pos pos' : Pos} {td ty tv : TE}
theorem NAt.typeIs {pins : List (Addr × Obj)} {σ : L2.St} {H : Hp} {s : Shared} {a b : Addr} {k : NestedKey} {rs : List Row} (n : NAt X.prog X.w H a b k rs) (I : Inv X pins σ H s) : s.TypeIs (.ref a) "dict" := by
  obtain ⟨_, _, ys, _, dd⟩ := dn_of I.hok n.at_ n.keys
  exact dd.typeIs
end
end Sg
set_option Elab.async false
set_option linter.all false
set_option maxRecDepth 100000
set_option maxHeartbeats 4000000
namespace Sg
open PySem PySem.Spec PyProof.Rows L2
/-! ## the law's own call, where defs of it make lambdas: their tables of code objects are known to be empty -/
/-- the tables' places -/
abbrev Pl (cs : List (Addr × Addr)) : List Addr := cs.map (·.2)
section
variable {P : Program} {w : World} {K : PySem.W.Frag} {mg mb : Str → Option Value} {k : Nat} {fa a : Addr} {cs : List (Addr × Addr)}
variable {fd : FuncData} {x : Str} {sp : Sp} {s₁ : Shared} {vs : List Value} {ns : List Int}
/-- what stands in such a heap: the script, perhaps, and the tables -/
structure TabH (cs : List (Addr × Addr)) (a : Addr) (H : Hp) : Prop where
  tab : ∀ p ∈ cs, H p.2 = some (.tbl #[])
  only : ∀ b u, H b = some u → (b = a ∧ ∃ o xs, u = .frz o (.lst xs)) ∨ (b ∈ Pl cs ∧ u = .tbl #[])
theorem call_tabs {H : Hp} (KX : K.In s₁.heap) (hns : s₁.heap.Ns mainGlobals mg) (hb : s₁.heap.Ns builtinsNs mb)
    (hbb : ∀ x : Str, x ≠ "__name__" → mb x = bootBuiltins x) (hlim : s₁.heap.NoLimit) (hg : s₁.gens = #[])
    (hbm : ∃ (bm : Addr) (ob : Obj), mg "__builtins__" = some (.ref bm) ∧ bm ≠ builtinsNs ∧ s₁.heap.get? bm = some ob ∧ ob.cls = .type "module" ∧ ob.dict = some builtinsNs ∧ ob.data = .plain)
    (hT : ∀ p ∈ cs, PySem.W.CodeHd s₁.heap p.1 p.2 ∧ s₁.heap.get? p.2 = some { cls := .none, data := .fields #[] } ∧ K.lookup p.2 = none)
    (ha : s₁.heap.get? a = some { cls := .type "list", data := .seq vs.toArray }) (hr : Room k callerA)
    (F : ∀ base : Heap, K.In base → base.Ns mainGlobals mg → (∀ p ∈ cs, LamX.TabB base mg p.1 p.2) → FnG P w K mg base k fa fd [x] sp)
    (hbind : ∀ (s : Shared) (u : Value), BindsTo s fd ⟨[u], []⟩ [(x, u)])
    (hsp : sp [.ref a] H (fun v _ => v = .bl true) E0) (hok : HOk P w H s₁.heap) (hH : TabH cs a H) (hK : H a ≠ none → K.lookup a = none) :
    codeAny (model P w) callerA (.call (.ref fa) ⟨[.ref a], []⟩) (Ended s₁) s₁ := by
  have inT : ∀ {b : Addr}, b ∈ Pl cs → s₁.heap.get? b = some { cls := .none, data := .fields #[] } ∧ K.lookup b = none := fun {b} h => by
    obtain ⟨p, hp, e⟩ := List.mem_map.mp h
    rw [← e]
    exact (hT p hp).2
  -- what is neither a list nor an empty table is not tracked
  have free : ∀ {b : Addr} {o : Obj}, s₁.heap.get? b = some o → (∀ vs n, o.data ≠ .seq vs n) → o.data ≠ .fields #[] → H b = none := by
    intro b o e h1 h2
    rcases q : H b with _ | u
    · rfl
    · rcases hH.only b u q with ⟨z, _⟩ | ⟨z, _⟩
      · rw [z, ha] at e
        rw [← Option.some.inj e] at h1
        exact absurd rfl (h1 _ _)
      · rw [(inT z).1] at e
        rw [← Option.some.inj e] at h2
        exact absurd rfl h2
  have dic : ∀ {b : Addr} {o : Obj} {es : Array DictEntry} {ep : Nat}, s₁.heap.get? b = some o → o.data = .dict es ep → H b = none := fun e d =>
    free e (fun _ _ z => by rw [d] at z; exact nomatch z) (fun z => by rw [d] at z; exact nomatch z)
  have nsK : ∀ {b : Addr} {m : Str → Option Value}, s₁.heap.Ns b m → (hidT s₁.heap H).Ns b m := by
    rintro b m ⟨o, es, ep, e, d, r⟩
    exact ⟨o, es, ep, hidT_get e (dic e d), d, r⟩
  have hKb : K.In (hidT s₁.heap H) := by
    intro b o e
    refine hidT_get (KX b o e) ?_
    rcases q : H b with _ | u
    · rfl
    · rcases hH.only b u q with ⟨z, _⟩ | ⟨z, _⟩
      · rw [z] at e q
        rw [hK (by rw [q]; exact fun y => nomatch y)] at e
        exact nomatch e
      · rw [(inT z).2] at e
        exact nomatch e
  have hM : Mod K mg (hidT s₁.heap H) := by
    refine ⟨hKb, nsK hns, ⟨mb, nsK hb, hbb⟩, ?_⟩
    obtain ⟨mc, h1, h2⟩ := hlim
    exact ⟨mc, nsK h1, h2⟩
  have TB : ∀ p ∈ cs, LamX.TabB (hidT s₁.heap H) mg p.1 p.2 := fun p hp => by
    obtain ⟨hC, hP, _⟩ := hT p hp
    have nG : mainGlobals ≠ p.2 := fun z => by
      obtain ⟨o, es, ep, e, hd, _⟩ := hns
      rw [z, hP] at e
      rw [← Option.some.inj e] at hd
      exact nomatch hd
    refine ⟨?_, ?_, nG⟩
    · obtain ⟨o, us, file, tf, flags, tg, inF, text, tt, e1, r1, r2, r3, rest⟩ := hC
      refine ⟨o, us, file, tf, flags, tg, inF, text, tt, hidT_get e1 (free e1 (fun _ _ z => ?_) fun z => ?_), r1, r2, r3, rest⟩
      · rw [r2] at z; exact nomatch z
      · rw [r2] at z
        rw [Data.fields.inj z] at r3
        exact absurd r3 (by simp)
    · obtain ⟨bm, ob, b1, b2, b3, b4, b5, b6⟩ := hbm
      refine ⟨bm, ob, b1, b2, fun z => ?_, fun z => ?_, hidT_get b3 (free b3 (fun _ _ z => ?_) fun z => ?_), b4, b5, b6⟩
      · obtain ⟨o, es, ep, e, hd, _⟩ := hns
        rw [← z, b3] at e
        rw [← Option.some.inj e, b6] at hd
        exact nomatch hd
      · rw [z, hP] at b3
        rw [← Option.some.inj b3] at b6
        exact nomatch b6
      · rw [b6] at z; exact nomatch z
      · rw [b6] at z; exact nomatch z
  have e0 : Env0 P w K mg (hidT s₁.heap H) callerA [] s₁ H :=
    ⟨rfl, hM, fun b o e => of_hidT e, Nat.le_of_eq (hidT_size _ _), trivial, fun b hb => (nomatch (show b ∈ ([] : List Addr) from hb)), hok, .of_eq hg⟩
  have run := (F _ hKb (nsK hns) TB).go callerA [] s₁ H ⟨[.ref a], []⟩ [.ref a] [.ref a] _ rfl hr e0 (hbind s₁ (.ref a)) (.cons rfl .nil) hsp
  refine codeAny_mono run ?_
  intro r s' h
  match r, h with
  | .error _, h => exact h.elim
  | .ok .next, h => exact h.elim
  | .ok .brk, h => exact h.elim
  | .ok .cont, h => exact h.elim
  | .ok (.ret u), h =>
    obtain ⟨v, H', os, bare, un, hok', ru, q⟩ := h
    obtain rfl : v = .bl true := q
    obtain rfl : u = Value.bool true := ru
    have kept : ∀ b o, b ∉ Pl cs → s₁.heap.get? b = some o → s'.heap.get? b = some o := by
      intro b o nb e
      rcases q : H b with _ | u
      · exact un.keep b o e q (fun z => nomatch (show b ∈ ([] : List Addr) from z)) (fun z => nomatch z)
      · rcases hH.only b u q with ⟨_, ob, xs, z⟩ | ⟨z, _⟩
        · rw [z] at q
          obtain ⟨e1, _⟩ := hok b _ q
          obtain ⟨e2, _⟩ := hok' b _ (un.frzs b ob _ q)
          rw [e] at e1
          rw [e2, Option.some.inj e1]
        · exact absurd z nb
    have more : ∀ p ∈ cs, ∃ ps : Array Value, s'.heap.get? p.2 = some { cls := .none, data := .fields ps } := fun p hp => by
      obtain ⟨ps, z⟩ := un.tbls p.2 #[] (hH.tab p hp)
      exact ⟨_, hok' p.2 _ z⟩
    refine ⟨rfl, ⟨fun b o e => ?_, fun b o e => ?_⟩, os, bare⟩
    · by_cases hb : b ∈ Pl cs
      · obtain ⟨p, hp, e'⟩ := List.mem_map.mp hb
        obtain ⟨ps, hm⟩ := more p hp
        obtain ⟨hC, hP, _⟩ := hT p hp
        rw [← e'] at e ⊢
        rw [hP] at e
        obtain rfl := Option.some.inj e
        exact .inr (.inl ⟨(hC.tab hP).isCodeTable, rfl, #[], ps, rfl, by rw [Array.empty_append]; exact hm⟩)
      · exact .inl (kept b o hb e)
    · by_cases hb : b ∈ Pl cs
      · obtain ⟨p, hp, e'⟩ := List.mem_map.mp hb
        rw [← e']
        obtain ⟨ps, hm⟩ := more p hp
        exact ⟨_, hm⟩
      · exact ⟨o, kept b o hb e⟩
/-- a def x of the text that makes lambdas: its code object, its table -/
structure LamDef (p : Program) (K : PySem.W.Frag) (x : Str) (c P : Addr) : Prop where
  there : ∃ d, (recsOf p).find? (fun e => e.name == x) = some d
  tab : PySem.W.tabIn K x = some (c, P)
  out : K.lookup P = none
theorem call_lawT (KX : K.In s₁.heap) (hns : s₁.heap.Ns mainGlobals mg) (hb : s₁.heap.Ns builtinsNs mb)
    (hbb : ∀ x : Str, x ≠ "__name__" → mb x = bootBuiltins x) (hlim : s₁.heap.NoLimit) (hg : s₁.gens = #[])
    (hbm : ∃ (bm : Addr) (ob : Obj), mg "__builtins__" = some (.ref bm) ∧ bm ≠ builtinsNs ∧ s₁.heap.get? bm = some ob ∧ ob.cls = .type "module" ∧ ob.dict = some builtinsNs ∧ ob.data = .plain)
    (hT : ∀ p ∈ cs, PySem.W.CodeHd s₁.heap p.1 p.2 ∧ s₁.heap.get? p.2 = some { cls := .none, data := .fields #[] } ∧ K.lookup p.2 = none)
    (ha : s₁.heap.get? a = some { cls := .type "list", data := .seq vs.toArray }) (hi : IntsAre vs ns)
    (hl : ns.length ≤ sizeLine) (hr : Room k callerA)
    (F : ∀ base : Heap, K.In base → base.Ns mainGlobals mg → (∀ p ∈ cs, LamX.TabB base mg p.1 p.2) → FnG P w K mg base k fa fd [x] sp)
    (hbind : ∀ (s : Shared) (u : Value), BindsTo s fd ⟨[u], []⟩ [(x, u)])
    (hsp : ∀ H : Hp, (∀ p ∈ cs, H p.2 = some (.tbl #[])) → SqL K H a (ns.map V.int) → sp [.ref a] H (fun v _ => v = .bl true) E0) :
    codeAny (model P w) callerA (.call (.ref fa) ⟨[.ref a], []⟩) (Ended s₁) s₁ := by
  have rv := vals_ints hi
  have lenV := hi.length
  have naT : a ∉ Pl cs := fun z => by
    obtain ⟨p, hp, e⟩ := List.mem_map.mp z
    have h := (hT p hp).2.1
    rw [e, ha] at h
    have h' := congrArg Obj.data (Option.some.inj h)
    exact nomatch (show Data.seq vs.toArray _ = Data.fields #[] from h')
  have inT : ∀ {b : Addr}, b ∈ Pl cs → s₁.heap.get? b = some { cls := .none, data := .fields #[] } := fun {b} h => by
    obtain ⟨p, hp, e⟩ := List.mem_map.mp h
    rw [← e]
    exact (hT p hp).2.1
  have mem : ∀ p ∈ cs, p.2 ∈ Pl cs := fun p hp => List.mem_map.mpr ⟨p, hp, rfl⟩
  rcases hk : K.lookup a with _ | o
  · -- the script is tracked
    let H : Hp := fun b => if b = a then some (.frz { cls := .type "list", data := .seq vs.toArray } (.lst (ns.map V.int))) else if b ∈ Pl cs then some (.tbl #[]) else none
    have at_a : H a = some (.frz { cls := .type "list", data := .seq vs.toArray } (.lst (ns.map V.int))) := if_pos rfl
    have at_t : ∀ b, b ∈ Pl cs → H b = some (.tbl #[]) := fun b hb => by
      have nb : b ≠ a := fun z => naT (z ▸ hb)
      show (if b = a then _ else if b ∈ Pl cs then some (HO.tbl #[]) else none) = _
      rw [if_neg nb, if_pos hb]
    have off : ∀ b, b ≠ a → b ∉ Pl cs → H b = none := fun b h1 h2 => by
      show (if b = a then _ else if b ∈ Pl cs then some (HO.tbl #[]) else none) = _
      rw [if_neg h1, if_neg h2]
    have hH : TabH cs a H := ⟨fun p hp => at_t _ (mem p hp), fun b u z => by
      by_cases h1 : b = a
      · subst h1
        rw [at_a] at z
        exact .inl ⟨rfl, _, _, (Option.some.inj z).symm⟩
      · by_cases h2 : b ∈ Pl cs
        · rw [at_t b h2] at z
          exact .inr ⟨h2, (Option.some.inj z).symm⟩
        · rw [off b h1 h2] at z
          exact nomatch z⟩
    refine call_tabs (H := H) KX hns hb hbb hlim hg hbm hT ha hr F hbind (hsp H hH.tab (.inl (.inr ⟨_, at_a⟩))) ?_ hH (fun _ => hk)
    intro b u z
    by_cases h1 : b = a
    · subst h1
      rw [at_a] at z
      obtain rfl := Option.some.inj z
      exact ⟨ha, by rw [List.length_map]; exact hl, vs, _, rv, ha⟩
    · by_cases h2 : b ∈ Pl cs
      · rw [at_t b h2] at z
        obtain rfl := Option.some.inj z
        exact inT h2
      · rw [off b h1 h2] at z
        exact nomatch z
  · -- the script is of the written part
    have e := KX a o hk
    rw [ha] at e
    obtain rfl := Option.some.inj e
    let H : Hp := fun b => if b ∈ Pl cs then some (.tbl #[]) else none
    have at_t : ∀ b, b ∈ Pl cs → H b = some (.tbl #[]) := fun b hb => if_pos hb
    have off : ∀ b, b ∉ Pl cs → H b = none := fun b h2 => if_neg h2
    have hH : TabH cs a H := ⟨fun p hp => at_t _ (mem p hp), fun b u z => by
      by_cases h2 : b ∈ Pl cs
      · rw [at_t b h2] at z
        exact .inr ⟨h2, (Option.some.inj z).symm⟩
      · rw [off b h2] at z
        exact nomatch z⟩
    refine call_tabs (H := H) KX hns hb hbb hlim hg hbm hT ha hr F hbind (hsp H hH.tab (.inr ⟨_, vs.toArray, _, hk, rfl, rfl, rfl, by rw [List.size_toArray, lenV]; exact hl, rv⟩)) ?_ hH (fun z => absurd (off a naT) z)
    intro b u z
    by_cases h2 : b ∈ Pl cs
    · rw [at_t b h2] at z
      obtain rfl := Option.some.inj z
      exact inT h2
    · rw [off b h2] at z
      exact nomatch z
end
/-- the end of such a law's proof -/
theorem walk_lawT {l : PySem.W.OpenLaw} {k : Nat} {q : Program} {loose : List Str} {XP : (Str → Option Value) → Heap → Prop}
    {YP : World → Heap → Prop} {d : DefRec} {K : Params → PySem.W.Frag} {sp : List (Addr × Addr) → PySem.W.Frag → Sp} {x : Str}
    (hn : l.most = some 63) (hdf : d.params.defaults = []) (hr : Room k callerA)
    (hY : ∀ (w : World) (h : Heap), YP w h → (K w.params).In h)
    (F : ∀ (w : World) (mg : Str → Option Value) (fa : Addr) (h : Heap), (K w.params).In h → h.Ns mainGlobals mg →
      mg d.name = some (.ref fa) → ∃ (cs : List (Addr × Addr)) (fd : FuncData), (∀ p ∈ cs, ∃ y, LamDef q (K w.params) y p.1 p.2) ∧ (∀ (s : Shared) (u : Value), BindsTo s fd ⟨[u], []⟩ [(x, u)]) ∧
        ∀ base : Heap, (K w.params).In base → base.Ns mainGlobals mg → (∀ p ∈ cs, LamX.TabB base mg p.1 p.2) →
          FnG l.prog w (K w.params) mg base k fa fd [x] (sp cs (K w.params)))
    (hsp : ∀ (cs : List (Addr × Addr)) (K : PySem.W.Frag) (H : Hp) (a : Addr) (ns : List Int), ns.length ≤ 63 → (∀ p ∈ cs, H p.2 = some (.tbl #[])) → SqL K H a (ns.map V.int) →
      sp cs K [.ref a] H (fun v _ => v = .bl true) E0) :
    PySem.W.WalkO q loose XP YP l.row.toRowW d [] (fun f vs => PySem.call f vs) := by
  refine Att.attach_call hn hdf ?_
  intro w s₀ s₁ mg mb fa o pm cd doc a vs ns G Y ho hd hcd hmg hobj hints hlen hg
  obtain ⟨cs, fd, hL, hb, hF⟩ := F w mg fa _ (hY w _ Y) G.T.g hmg
  refine call_lawT (hY w _ Y) G.T.g G.T.b G.T.builtins G.T.nolimit hg G.T.bmain (fun p hp => ?_) hobj hints
    (Nat.le_trans hlen (by decide)) hr hF hb (fun H hO hS => hsp cs _ H a ns hlen hO hS)
  obtain ⟨y, ⟨d', hrec⟩, htab, hout⟩ := hL p hp
  obtain ⟨h1, h2⟩ := PySem.W.tab_of G.T (hY w _ Y) hrec htab
  exact ⟨h1, h2, hout⟩
end Sg
set_option Elab.async false
set_option linter.all false
set_option maxRecDepth 100000
set_option maxHeartbeats 4000000
namespace Sg
open PySem PySem.Spec PyProof.Rows L2
/-! ## any data -/
mutual
theorem Dp.same {K : PySem.W.Frag} {H H' : Hp} (e : Same H H') : ∀ {v : V} {d : PyData}, Dp K H v d → Dp K H' v d
  | _, _, .non => .non
  | _, _, .bl b => .bl b
  | _, _, .int i => .int i
  | _, _, .str x => .str x
  | _, _, .lst h r => .lst (e.seq h) (DpAll.same e r)
  | _, _, .tup h r => .tup (Same.tup e h) (DpAll.same e r)
theorem DpAll.same {K : PySem.W.Frag} {H H' : Hp} (e : Same H H') : ∀ {vs : List V} {ds : List PyData}, DpAll K H vs ds → DpAll K H' vs ds
  | _, _, .nil => .nil
  | _, _, .cons a r => .cons (Dp.same e a) (DpAll.same e r)
end
theorem DpAll.app {K : PySem.W.Frag} {H : Hp} : ∀ {vs us : List V} {ds es : List PyData}, DpAll K H vs ds → DpAll K H us es → DpAll K H (vs ++ us) (ds ++ es)
  | _, _, _, _, .nil, g => g
  | _, _, _, _, .cons a r, g => .cons a (DpAll.app r g)
theorem DpAll.len {K : PySem.W.Frag} {H : Hp} : ∀ {vs : List V} {ds : List PyData}, DpAll K H vs ds → vs.length = ds.length
  | _, _, .nil => rfl
  | _, _, .cons _ r => congrArg (· + 1) (DpAll.len r)
theorem DpAll.at {K : PySem.W.Frag} {H : Hp} : ∀ {vs : List V} {ds : List PyData} {i : Nat} {v : V}, DpAll K H vs ds → vs[i]? = some v → ∃ d, ds[i]? = some d ∧ Dp K H v d
  | _, _, _, _, .nil, h => nomatch h
  | _, _, 0, _, .cons a _, h => by cases h; exact ⟨_, rfl, a⟩
  | _, _, i + 1, _, .cons _ r, h => DpAll.at (i := i) r h
theorem DpAll.mem {K : PySem.W.Frag} {H : Hp} {vs : List V} {ds : List PyData} (h : DpAll K H vs ds) {v : V} (hv : v ∈ vs) : ∃ d ∈ ds, Dp K H v d := by
  obtain ⟨i, hi⟩ := List.mem_iff_getElem?.mp hv
  obtain ⟨d, h1, h2⟩ := DpAll.at h hi
  exact ⟨d, List.mem_of_getElem? h1, h2⟩
/-! ints and tuples of them: nothing that changes is read -/
mutual
theorem Tp.reads0 {X : Cx} {pins : List (Addr × Obj)} {σ : L2.St} {H : Hp} {s : Shared} (I : Inv X pins σ H s) : ∀ (d : PyData) (v : V) (u : Value), Tp X.K H v d → RelV v u → Reads s.heap u d []
  | .int i, _, _, h, r => by
    cases h
    obtain ⟨t, rfl⟩ := r
    exact .int i t
  | .tuple ds, _, _, h, r => by
    cases h with
    | tu hs ha =>
      cases r
      obtain ⟨its, rv, ⟨o, ho, hc, n, hd⟩, _⟩ := I.tuple hs
      exact .tuple ho hc hd (TpAll.reads0 I ds _ its ha rv)
  | .none, _, _, h, _ => by cases h
  | .bool _, _, _, h, _ => by cases h
  | .str _, _, _, h, _ => by cases h
  | .list _, _, _, h, _ => by cases h
  | .dict _, _, _, h, _ => by cases h
theorem TpAll.reads0 {X : Cx} {pins : List (Addr × Obj)} {σ : L2.St} {H : Hp} {s : Shared} (I : Inv X pins σ H s) : ∀ (ds : List PyData) (vs : List V) (us : List Value), TpAll X.K H vs ds → Vals vs us → ReadsAll s.heap us ds []
  | [], _, _, h, r => by
    cases h
    cases r
    exact .nil
  | d :: ds, _, _, h, r => by
    cases h with
    | on h1 h2 =>
      cases r with
      | cons r1 r2 => exact ReadsAll.cons (as := []) (bs := []) (Tp.reads0 I d _ _ h1 r1) (TpAll.reads0 I ds _ _ h2 r2)
end
mutual
theorem Dp.noDict {K : PySem.W.Frag} {H : Hp} : ∀ {v : V} {d : PyData}, Dp K H v d → d.hasDict = false
  | _, _, .non => by simp only [PyData.hasDict]
  | _, _, .bl _ => by simp only [PyData.hasDict]
  | _, _, .int _ => by simp only [PyData.hasDict]
  | _, _, .str _ => by simp only [PyData.hasDict]
  | _, _, .lst _ r => by simp only [PyData.hasDict]; exact DpAll.noDict r
  | _, _, .tup _ r => by simp only [PyData.hasDict]; exact DpAll.noDict r
theorem DpAll.noDict {K : PySem.W.Frag} {H : Hp} : ∀ {vs : List V} {ds : List PyData}, DpAll K H vs ds → PyData.hasDictAll ds = false
  | _, _, .nil => by simp only [PyData.hasDictAll]
  | _, _, .cons a r => by simp only [PyData.hasDictAll, Dp.noDict a, DpAll.noDict r, Bool.or_self]
end
/-- a dict: empty, or one int for one value of ints and tuples -/
inductive DicD (K : PySem.W.Frag) (H : Hp) : List (L2.Key × V) → List (PyData × PyData) → Prop
  | no : DicD K H [] []
  | one {i : Int} {v : V} {d : PyData} : Tp K H v d → DicD K H [(.inl i, v)] [(.int i, d)]
/-- any data: a dict at most on top -/
inductive Aq (K : PySem.W.Frag) (H : Hp) : V → PyData → Prop
  | data {v : V} {d : PyData} : Dp K H v d → Aq K H v d
  | dic {a : Addr} {kvs : List (L2.Key × V)} {ds : List (PyData × PyData)} : H a = some (.dK kvs) → DicD K H kvs ds → Aq K H (.ref a) (.dict ds)
theorem Aq.same {K : PySem.W.Frag} {H H' : Hp} (e : Same H H') {v : V} {d : PyData} (h : Aq K H v d) : Aq K H' v d := by
  cases h with
  | data h => exact .data (Dp.same e h)
  | dic h g =>
    refine .dic (e _ _ h) ?_
    cases g with
    | no => exact .no
    | one t => exact .one (t.stay (.of e))
/-- what may be shown -/
structure GoodD (d : PyData) : Prop where
  sh : d.showable = true
  dp : d.depth ≤ 40
  lv : d.leavesShort 24 = true
  bk : d.bulk ≤ 400000
theorem GoodD.short {d : PyData} (h : GoodD d) : d.shown.length ≤ sizeLine := by
  have h1 := PyData.shown_le_bulk 24 (by decide) d h.lv
  have h2 := h.bk
  have h4 : sizeLine = 16777216 := sizeLine_eq
  omega
/-- some data that may be shown -/
def AnyV (K : PySem.W.Frag) (H : Hp) (v : V) : Prop := ∃ d, Aq K H v d ∧ GoodD d
theorem AnyV.same {K : PySem.W.Frag} {H H' : Hp} (e : Same H H') {v : V} (h : AnyV K H v) : AnyV K H' v := by
  obtain ⟨d, h1, h2⟩ := h
  exact ⟨d, h1.same e, h2⟩
def AllAny (K : PySem.W.Frag) (H : Hp) (vs : List V) : Prop := ∀ v ∈ vs, AnyV K H v
theorem AllAny.same {K : PySem.W.Frag} {H H' : Hp} (e : Same H H') {vs : List V} (h : AllAny K H vs) : AllAny K H' vs := fun v hv => (h v hv).same e
theorem AllAny.app {K : PySem.W.Frag} {H : Hp} {vs us : List V} (h : AllAny K H vs) (g : AllAny K H us) : AllAny K H (vs ++ us) := fun v hv => (List.mem_append.mp hv).elim (h v) (g v)
theorem AllAny.nil {K : PySem.W.Frag} {H : Hp} : AllAny K H [] := fun _ h => nomatch h
theorem AllAny.cons {K : PySem.W.Frag} {H : Hp} {v : V} {vs : List V} (h : AnyV K H v) (g : AllAny K H vs) : AllAny K H (v :: vs) := fun u hu => (List.mem_cons.mp hu).elim (fun e => e ▸ h) (g u)
section
variable {X : Cx}
/-! ### repr(x) -/
theorem call_reprA {j : Nat} (hgd : X.A.guards = some []) (hr : Room j X.A) :
    CallR X (.builtin "repr") (fun xs H Q => ∃ v d, xs = [v] ∧ Aq X.K H v d ∧ GoodD d ∧ Q (.str d.shown) H) := by
  intro pins s σ H xs us Q I r h
  obtain ⟨v, d, rfl, hd, hg, q⟩ := h
  obtain ⟨u, rfl, rx⟩ := vals1 r
  have hu := hr.units
  have hdp := hg.dp
  have fin : ∀ t : Nat, EP X pins σ Q (.str d.shown t) { s with toks := t + 1 } := fun t => ⟨.str d.shown, H, I.tok _, ⟨_, rfl⟩, q⟩
  have ref : ∀ a : Addr, u = .ref a → ∀ as, Reads s.heap (.ref a) d as → (d.hasDict = true → sysModules ∉ as) → wpAny (model X.prog X.w) X.A (call (.builtin "repr") [u]) (EP X pins σ Q) X.xe s := fun a e as rd hs => by
    subst e
    exact repr_of_reads' (h₀ := s.heap) rd hg.sh hs hgd (by omega) (fun _ _ z => z) (fun h' u tk hk => ⟨.str d.shown, H, I.kept hk, ⟨u, rfl⟩, q⟩) hg.short
  cases hd with
  | dic ha hD =>
    cases rx
    obtain ⟨z, hm, xs, rel, o, es, ep, ho, hx, hdat, hes, hp, hnd⟩ := dk_rd I.hok (.inl ha)
    cases hD with
    | no =>
      cases rel
      have he : es.toList = [] := by
        generalize es.toList = l at hp
        cases hp; rfl
      refine ref _ rfl _ (.dict (as := []) (bs := []) ho hx.1 hdat (by rw [he]; exact .nil) (by rw [he]; exact .nil)) fun _ y => ?_
      have y' := List.mem_singleton.mp (show sysModules ∈ [_] from y)
      rw [← y'] at hm
      exact absurd hm (by simp)
    | one t =>
      cases rel with
      | cons r1 r2 =>
        cases r2
        rename_i b
        obtain ⟨k, y⟩ := b
        obtain ⟨ek, ry⟩ := r1
        have he : ∃ e : DictEntry, es.toList = [e] ∧ keyIs k e.key = true ∧ e.val = y := by
          generalize es.toList = l at hp
          cases hp with
          | cons h1 h2 h3 =>
            cases h3
            exact ⟨_, rfl, h1, h2⟩
        obtain ⟨e, he, hk, hv⟩ := he
        have ek' : (Sum.inl _ : L2.Key) = k := ek
        rw [← ek'] at hk
        obtain ⟨t0, e0⟩ := Value.isInt_shape hk
        refine ref _ rfl _ (.dict (as := []) (bs := []) ho hx.1 hdat ?_ ?_) fun _ y => ?_
        · rw [he]
          show ReadsAll s.heap [e.key] _ []
          rw [e0]
          exact ReadsAll.cons (as := []) (bs := []) (.int _ _) .nil
        · rw [he]
          show ReadsAll s.heap [e.val] _ []
          rw [hv]
          exact ReadsAll.cons (as := []) (bs := []) (Tp.reads0 I _ _ _ t ry) .nil
        · have y' := List.mem_singleton.mp (show sysModules ∈ [_] from y)
          rw [← y'] at hm
          exact absurd hm (by simp)
  | data hd =>
    cases hd with
    | non => cases rx; exact PySem.P.repr_of_none (fin _)
    | bl b => cases rx; exact PySem.P.repr_of_bool (by have := fin s.toks; cases b <;> exact this)
    | int i =>
      obtain ⟨t, rfl⟩ := rx
      have hs := hg.sh
      simp only [PyData.showable, decide_eq_true_eq] at hs
      exact PySem.P.repr_of_int hs (fin _)
    | str x =>
      obtain ⟨t, rfl⟩ := rx
      exact PySem.P.repr_of_str (fin _) hg.short
    | lst hs ha =>
      cases rx
      obtain ⟨as, rd⟩ := Dp.reads I _ _ _ (.lst hs ha) rfl
      exact ref _ rfl as rd fun z => by
        rw [Dp.noDict (Dp.lst hs ha)] at z; exact nomatch z
    | tup hs ha =>
      cases rx
      obtain ⟨as, rd⟩ := Dp.reads I _ _ _ (.tup hs ha) rfl
      exact ref _ rfl as rd fun z => by
        rw [Dp.noDict (Dp.tup hs ha)] at z; exact nomatch z
end
end Sg
set_option Elab.async false
set_option linter.all false
set_option maxRecDepth 100000
set_option maxHeartbeats 4000000
namespace Sg
open PySem PySem.Spec PyProof.Rows L2
/-! ## isinstance of any data -/
def tyN : PyData → String
  | .none => "NoneType"
  | .bool _ => "bool"
  | .int _ => "int"
  | .str _ => "str"
  | .list _ => "list"
  | .tuple _ => "tuple"
  | .dict _ => "dict"
theorem tyL {K : PySem.W.Frag} {H : Hp} {a : Addr} {xs : List V} (h : SqL K H a xs) : TyX K H (.ref a) (.type "list") := by
  rcases h with (h | ⟨o, h⟩) | ⟨o, _, _, h, hc, _⟩
  · exact .base (.lst h)
  · exact .base (.frz h)
  · exact .kList h hc
theorem aq_ty {K : PySem.W.Frag} {H : Hp} {v : V} {d : PyData} (h : Aq K H v d) : TyX K H v (.type (tyN d)) := by
  cases h with
  | dic h _ => exact .base (.dK h)
  | data h =>
    cases h with
    | non => exact .base .non
    | bl b => exact .base (.bl b)
    | int i => exact .base (.int i)
    | str x => exact .base (.str x)
    | lst h _ => exact tyL h
    | tup h _ => exact tyT h
def isS (u t : String) : Bool := decide (t = u) || (decide (u = "int") && decide (t = "bool"))
def isB (u : String) (d : PyData) : Bool := isS u (tyN d)
theorem tyN_mem (d : PyData) : tyN d ∈ ["NoneType", "bool", "int", "str", "list", "tuple", "dict"] := by
  cases d <;> simp [tyN]
theorem kit_table : ∀ t ∈ ["NoneType", "bool", "int", "str", "list", "tuple", "dict"], ∀ u ∈ ["tuple", "int", "bool", "str", "list"], kitB t u = some (isS u t) := by decide +kernel
theorem isB_kit {u : String} (hu : u = "tuple" ∨ u = "int" ∨ u = "bool" ∨ u = "str" ∨ u = "list") (d : PyData) : kitB (tyN d) u = some (isB u d) :=
  kit_table _ (tyN_mem d) u (by rcases hu with rfl | rfl | rfl | rfl | rfl <;> simp)
section
variable {X : Cx}
/-- no data is an instance of this class -/
def NoInst (K : PySem.W.Frag) (C : Addr) : Prop := ∀ d : PyData, PySem.W.kitOne K (.type (tyN d)) (.ref C) = some false
theorem noInst_by {K : PySem.W.Frag} {C : Addr} (h1 : PySem.W.kitOne K (.type "NoneType") (.ref C) = some false) (h2 : PySem.W.kitOne K (.type "bool") (.ref C) = some false) (h3 : PySem.W.kitOne K (.type "int") (.ref C) = some false)
    (h4 : PySem.W.kitOne K (.type "str") (.ref C) = some false) (h5 : PySem.W.kitOne K (.type "list") (.ref C) = some false) (h6 : PySem.W.kitOne K (.type "tuple") (.ref C) = some false) (h7 : PySem.W.kitOne K (.type "dict") (.ref C) = some false) : NoInst K C := fun d => by
  cases d <;> assumption
end
theorem isB_tup {d : PyData} : isB "tuple" d = true ↔ ∃ ds, d = .tuple ds := by
  cases d <;> simp [isB, isS, tyN]
/-- an int that is no bool -/
def isIntD : PyData → Bool
  | .int _ => true
  | _ => false
def betD (d : PyData) (l m : Int) : Bool := match d with
  | .int i => decide (l ≤ i) && decide (i ≤ m)
  | _ => false
/-! ## displays of constants -/
def mapO (f : Expr → Option PyData) : List Expr → Option (List PyData)
  | [] => some []
  | e :: es => match f e, mapO f es with
    | some d, some ds => some (d :: ds)
    | _, _ => none
def constE : Nat → Expr → Option PyData
  | 0, _ => none
  | _ + 1, .Constant .none _ _ => some .none
  | _ + 1, .Constant (.bool b) _ _ => some (.bool b)
  | _ + 1, .Constant (.int i) _ _ => some (.int i)
  | _ + 1, .Constant (.str x) _ _ => some (.str x)
  | _ + 1, .UnaryOp .USub (.Constant (.int i) _ _) _ => some (.int (-i))
  | _ + 1, .BinOp (.Constant (.int a) _ _) .Pow (.Constant (.int b) _ _) _ => if 0 ≤ b ∧ b ≤ 18 ∧ a = 10 then some (.int (a ^ b.toNat)) else none
  | n + 1, .Tuple es _ _ => if es.length ≤ 1000 then (mapO (constE n) es).map .tuple else none
  | n + 1, .List es _ => if es.length ≤ 1000 then (mapO (constE n) es).map .list else none
  | _, _ => none
theorem PE.imp {X : Cx} {e : Expr} {t t' : TE} (h : PE X e t) (i : ∀ σ H Q, t' σ H Q → t σ H Q) : PE X e t' := ⟨fun pins s σ H Q I q => h.run pins s σ H Q I (i _ _ _ q)⟩
theorem same_refl (H : Hp) : Same H H := fun _ _ h => h
/-- what is new since H -/
def nw (H H' : Hp) : Hp := fun b => match H b with
  | none => H' b
  | some _ => none
theorem nw_none {H H' : Hp} {b : Addr} (h : H b = none) : nw H H' b = H' b := by unfold nw; rw [h]
theorem nw_some {H H' : Hp} {b : Addr} {o : HO} (h : nw H H' b = some o) : H b = none ∧ H' b = some o := by
  unfold nw at h
  rcases z : H b with _ | u
  · rw [z] at h; exact ⟨rfl, h⟩
  · rw [z] at h; exact nomatch h
theorem nw_same {H H1 H2 : Hp} (e : Same H1 H2) : Same (nw H H1) (nw H H2) := fun b o h => by
  obtain ⟨h1, h2⟩ := nw_some h
  rw [nw_none h1]; exact e _ _ h2
theorem nw_left {H H1 H2 : Hp} (e : Same H H1) : Same (nw H1 H2) (nw H H2) := fun b o h => by
  obtain ⟨h1, h2⟩ := nw_some h
  have : H b = none := by
    rcases z : H b with _ | u
    · rfl
    · rw [e _ _ z] at h1; exact nomatch h1
  rw [nw_none this]; exact h2
theorem nw_sub {H H' : Hp} : Same (nw H H') H' := fun b o h => (nw_some h).2
theorem same_none {H H' : Hp} (e : Same H H') {b : Addr} (h : H' b = none) : H b = none := by
  rcases z : H b with _ | u
  · rfl
  · rw [e _ _ z] at h; exact nomatch h
def tData (K : PySem.W.Frag) (d : PyData) : TE := fun _ H Q => ∀ H' v, Same H H' → Dp K (nw H H') v d → Q v H'
def tDatas (K : PySem.W.Frag) (ds : List PyData) : TA := fun _ H Q => ∀ H' vs, Same H H' → DpAll K (nw H H') vs ds → Q vs H'
theorem constE_star {n : Nat} {e : Expr} {d : PyData} (h : constE n e = some d) : ∀ (es : List Expr) (env : Env), starEach (e :: es) env = (false, eval e env) :: starEach es env := by
  intro es env
  cases e with
  | Starred v p => cases n <;> simp [constE] at h
  | _ => rfl
theorem constE_ok {X : Cx} : ∀ (n : Nat) (e : Expr) (d : PyData), constE n e = some d → PE X e (tData X.K d) := by
  intro n
  induction n with
  | zero => intro e d h; exact nomatch h
  | succ n ih =>
    have big : 1000 ≤ sizeLine := by rw [sizeLine_eq]; decide
    have all : ∀ (es : List Expr) (ds : List PyData), mapO (constE n) es = some ds → PA X es (tDatas X.K ds) ∧ ds.length = es.length := by
      intro es
      induction es with
      | nil =>
        intro ds h
        cases h
        exact ⟨⟨fun pos pins s σ H Q I h => pa_nil.run pos pins s σ H Q I (h H [] (same_refl H) .nil)⟩, rfl⟩
      | cons e es ihe =>
        intro ds h
        unfold mapO at h
        split at h
        · rename_i d ds' h1 h2
          cases h
          obtain ⟨g1, g2⟩ := ihe ds' h2
          refine ⟨⟨fun pos pins s σ H Q I h => (pa_cons (ih e d h1) g1 (constE_star h1 _ _)).run pos pins s σ H Q I ?_⟩, by rw [List.length_cons, List.length_cons, g2]⟩
          exact fun H1 v e1 hv => fun H2 vs e2 hvs => h H2 (v :: vs) (e1.trans e2) (.cons (Dp.same (nw_same e2) hv) (DpAll.same (nw_left e1) hvs))
        · exact nomatch h
    intro e d h
    unfold constE at h
    split at h
    · exact absurd ‹_› (by simp)
    · cases h; exact PE.imp pe_non fun σ H Q q => q H _ (same_refl H) .non
    · cases h; exact PE.imp pe_bl fun σ H Q q => q H _ (same_refl H) (.bl _)
    · cases h; exact PE.imp pe_int fun σ H Q q => q H _ (same_refl H) (.int _)
    · cases h; exact PE.imp pe_str fun σ H Q q => q H _ (same_refl H) (.str _)
    · cases h; exact PE.imp (pe_un un_neg pe_int) fun σ H Q q => ⟨_, rfl, q H _ (same_refl H) (.int _)⟩
    · rename_i a j1 p1 b j2 p2 p3 m hm
      split at h
      · rename_i hc
        cases h
        obtain ⟨h1, h2, rfl⟩ := hc
        exact PE.imp (pe_op op_pow pe_int pe_int) fun σ H Q q => ⟨_, _, rfl, rfl, ⟨h1, by omega, by decide⟩, q H _ (same_refl H) (.int _)⟩
      · exact nomatch h
    · rename_i n' es k p hn
      cases hn
      split at h
      · rename_i hl
        obtain ⟨ds, h1, rfl⟩ := Option.map_eq_some_iff.mp h
        obtain ⟨g1, g2⟩ := all es ds h1
        refine PE.imp (pe_tup g1) fun σ H Q q => ?_
        intro H1 vs e1 hvs
        refine ⟨by have := DpAll.len hvs; omega, fun t nt => q _ _ (e1.trans (same_new nt)) (.tup (.of ((nw_none (same_none e1 nt)).trans upd_same)) (DpAll.same (nw_same (same_new nt)) hvs))⟩
      · exact nomatch h
    · rename_i n' es p hn
      cases hn
      split at h
      · rename_i hl
        obtain ⟨ds, h1, rfl⟩ := Option.map_eq_some_iff.mp h
        obtain ⟨g1, g2⟩ := all es ds h1
        refine PE.imp (pe_lst g1) fun σ H Q q => ?_
        intro H1 vs e1 hvs
        refine ⟨by have := DpAll.len hvs; omega, fun t nt => q _ _ (e1.trans (same_new nt)) (.lst (.of ((nw_none (same_none e1 nt)).trans upd_same)) (DpAll.same (nw_same (same_new nt)) hvs))⟩
      · exact nomatch h
    · exact nomatch h
/-! ### any constant, a list of them -/
end Sg
set_option Elab.async false
set_option linter.all false
set_option maxRecDepth 100000
set_option maxHeartbeats 4000000
namespace Sg
open PySem PySem.Spec PyProof.Rows L2
/-! ## defs that are handed an exception, in an except suite -/
/-- p: the exception's place and object -/
structure FnE (P : Program) (w : World) (K : PySem.W.Frag) (mg : Str → Option Value) (base : Heap) (k : Nat) (f : Addr) (fd : FuncData) (ps : List Str) (sp : Addr × Obj → Sp) : Prop where
  arity : ∀ p vs H Q, sp p vs H Q E0 → vs.length = ps.length
  go : ∀ (A : Around) (outer : List Env) (s : Shared) (H : Hp) (args : Args) (us : List Value) (vs : List V) (Q : VK) (p : Addr × Obj),
    L2H.RoomH k A → L2H.PinOk outer H s p → Env0 P w K mg base A outer s H → BindsTo s fd args (ps.zip us) → Vals vs us → sp p vs H Q E0 →
    codeAny (model P w) A (.call (.ref f) args) (CR CX0 outer P w H s Q E0) s
section
variable {P : Program} {w : World} {K : PySem.W.Frag} {mg : Str → Option Value} {base : Heap} {k : Nat} {f : Addr}
variable {fd : FuncData} {ps : List Str} {sp : Addr × Obj → Sp}
theorem FnE.mono {j : Nat} (F : FnE P w K mg base j f fd ps sp) (h : j ≤ k) : FnE P w K mg base k f fd ps sp :=
  ⟨F.arity, fun A outer s H args us vs Q p hr => F.go A outer s H args us vs Q p (hr.mono h)⟩
theorem fnE_mk {x qual : Str} {st : Stmt} {N : List Str} (F : Fun K x qual st f fd)
    (S : FnScope N ps (defScope st)) (arity : ∀ p vs H Q, sp p vs H Q E0 → vs.length = ps.length)
    (hbody : ∀ (cdv : Value) (A : Around) (outer : List Env) (s : Shared) (H : Hp) (vs : List V) (Q : VK) (p : Addr × Obj),
      L2H.RoomH k (A.deeper (envOfC qual (defScope st) s.heap.objs.size f cdv)) → sp p vs H Q E0 →
      ∃ t, PSs (L2H.cxH CX0 P w K mg base N qual (defScope st) f cdv A outer s H E0 p) (defBody st) t ∧
        t { nx := fun _ H' => Q .non H', rt := Q } (start N vs) H) :
    FnE P w K mg base (k + 1) f fd ps sp := by
  obtain ⟨oc, od, kV, doc, pm, an, cdv, ct, osl, rfl, lk, hcd⟩ := F.ex
  refine ⟨arity, ?_⟩
  intro A outer s H args us vs Q p hr hpin e0 hb r hsp
  have hl := arity _ _ _ _ hsp
  have hk0 : ∀ b o, base.get? b = some o → s.heap.get? b = some o := fun b o e => (e0.bs b o e).1
  have KX : K.In s.heap := e0.mod.kin.keeps hk0
  have lim : s.heap.NoLimit := e0.mod.nolimit.keeps hk0
  refine codeAny_call_function hr.depth (KX _ _ lk) rfl S.co S.gen rfl (PySem.W.codeRec_of KX hcd) ?_
  refine hb _ _ _ _ (wpAny_newFunctionEnv_cells S.kind ?_ ?_)
  · rintro ⟨n, v⟩ hy
    have hn := S.par n (List.of_mem_zip hy).1
    cases hn with
    | inl q => exact .inl q
    | inr q => exact .inr ⟨q, PySem.W.cellsFrom_some _ _ _ (.inl q)⟩
  · intro env he s1 x
    subst he
    refine ⟨lim.keeps x.toInCall.keep, ?_⟩
    apply codeAny_func
    obtain ⟨t, ht, hq⟩ := hbody cdv A outer s H vs Q p (hr.deeper _) hsp
    have I := L2H.inv_startH (CX := CX0) (E := E0) (cd := cdv) (qual := qual) (f := f) S hpin e0 hl r x
    refine wpAny_mono (ht.run [] s1 (start N vs) H _ I hq) ?_ (fun e s' hs => hs)
    intro fl s' hs
    cases fl with
    | ret u =>
      obtain ⟨v, σ', H', J, rv, q⟩ := hs
      exact ⟨v, H', J.os, J.bare, J.base, J.hok, rv, q⟩
    | next =>
      obtain ⟨σ', H', J, q⟩ := hs
      exact ⟨V.non, H', J.os, J.bare, J.base, J.hok, rfl, q⟩
    | brk => obtain ⟨_, _, _, q⟩ := hs; exact q.elim
    | cont => obtain ⟨_, _, _, q⟩ := hs; exact q.elim
end
section
variable {X : Cx} {k : Nat} {f : Addr} {fd : FuncData} {ps : List Str} {sp : Addr × Obj → Sp}
variable {x : Str} {q pos : Pos} {e : Expr} {es : List Expr} {t : TA} {p : Addr × Obj}
/-- f(e, ..) of such a def, p the exception that is handed over -/
theorem pe_callE (F : FnE X.prog X.w X.K X.mg X.base k f fd ps sp) (hp : p ∈ X.pn) (hr : L2H.RoomH k X.A)
    (hg : Gl X x) (hm : X.mg x = some (.ref f)) (hk : PySem.W.keepIn X.K (.ref f) = true) (hb : Binds X.K fd ps [])
    (ha : PA X (e :: es) t) (hdb : (x == ("__debug__" : Str)) = false := by decide)
    (he : starEach (e :: es) X.env = (false, eval e X.env) :: starEach es X.env := by rfl)
    (hpl : (backTo pos (starEach es X.env)).any (·.1) = false := by rfl) :
    PE X (.Call (.Name x q) (e :: es) [] pos) (tCall (sp p) [] E0 t) := by
  constructor
  intro pins s σ H Q I h
  refine wpAny_Call_Name_kw (ld_glob I hg hm (PySem.W.callWith_K (h₀ := X.base) I.ok.mod.kin hk ?_ he hpl) hdb)
  refine thn (ha.run pos pins s σ H _ I h) ?_
  rintro us s1 ⟨vs, H1, I1, r, q⟩
  refine ⟨I1.kIn, ?_⟩
  rw [List.append_nil] at q
  have hl : (us ++ []).length = ps.length := by rw [List.append_nil, ← r.length]; exact F.arity _ _ _ _ q
  have hbb := hb s1 us I1.kIn hl
  rw [List.append_nil] at hbb
  obtain ⟨p1, p2, p3, p4, p5⟩ := I1.pin p (List.mem_append_left _ hp)
  have hpin : L2H.PinOk X.stack H1 s1 p := ⟨p1, p2, fun hm => (List.mem_cons.mp (I1.stkSub p.1 hm)).elim p3 p4, p5⟩
  refine wpAny_call (codeAny_mono (F.go X.A X.stack s1 H1 ⟨us, []⟩ us vs Q p hr hpin I1.env0 hbb r q) ?_)
  intro r' s' hq
  match r', hq with
  | .error _, hq => exact hq.elim
  | .ok (.ret _), hq => exact I1.after hq
  | .ok .next, hq => exact hq.elim
  | .ok .brk, hq => exact hq.elim
  | .ok .cont, hq => exact hq.elim
/-- isinstance(e, c), e an exception that is known to stand there -/
theorem call_isP {K : PySem.W.Frag} {D : Addr} (hK : X.K = K) (hp : p ∈ X.pn) (C : ExcC K D) (hz : Zc (.ref D) none p.2) (hf : ∃ vs, p.2.data = .fields vs) : CallR X (.builtin "isinstance") (rIsE K D p.1) := by
  subst hK
  intro pins s σ H xs us Q I r h
  obtain ⟨c, cv, b, rfl, hcv, e, q⟩ := h
  obtain ⟨u1, u2, rfl, r1, r2⟩ := vals2 r
  cases r1
  obtain rfl := hcv _ r2
  have hget := (I.pin p (List.mem_append_left _ hp)).1
  obtain ⟨vs, hv⟩ := hf
  have J : PySem.W.InstAt s.heap p.1 p.2 D none := by
    obtain ⟨pa, ⟨oc, od, oda, osl⟩⟩ := p
    obtain ⟨h1, h2⟩ := hz
    dsimp only at h1 h2 hv
    subst h1 h2 hv
    exact ⟨hget, rfl, rfl, trivial⟩
  exact PySem.W.kia_one (PySem.W.handS_kitx_exc C.hg C.hk C.hs C.hd C.ha C.hn C.ht C.hm) I.kIn J e (fun z => nomatch z) fun tk => ⟨.bl b, H, I.tok tk, rfl, q⟩
/-- l.count(True), l a list of truths -/
theorem mt_lcountB : MtR X "list.count" (fun x xs H Q => ∃ (p : Addr) (bs : List Bool), x = .ref p ∧ xs = [.bl true] ∧ SqL X.K H p (bs.map V.bl) ∧ Q (.int (bs.count true : Nat)) H) := by
  intro pins s σ H x xs v us Q I rx rxs h
  obtain ⟨p, bs, rfl, rfl, hs, q⟩ := h
  cases rx
  obtain ⟨u, rfl, ru⟩ := rxs.one
  obtain rfl : u = Value.bool true := ru
  obtain ⟨its, rv, ⟨⟨cls, dd, data, sl⟩, n, ho, hc, hdn, hd⟩, hlen⟩ := I.list hs
  simp only at hc hd
  subst hc hd
  have fl : (bs.map V.bl).all flatV = true := by
    rw [List.all_eq_true]
    intro y hy
    obtain ⟨b, _, rfl⟩ := List.mem_map.mp hy
    rfl
  have ei : its = bs.map Value.bool := by
    clear ho hlen fl hs q hdn
    induction bs generalizing its with
    | nil => cases rv; rfl
    | cons b r ih =>
      cases rv with
      | cons a t =>
        rw [List.map_cons, ← ih _ t]
        cases a; rfl
  have ec : its.toArray.toList.countP (eqU (V.bl true)) = bs.count true := by
    rw [ei]
    show (bs.map Value.bool).countP _ = _
    rw [List.countP_map, List.count_eq_countP]
    refine List.countP_congr fun b _ => ?_
    cases b <;> simp [eqU, eqV]
  refine call_meets PySem.F.slot_list_count ⟨_, ho, rfl⟩ PySem.F.entry_list_count (PySem.F.args_list_count_2 _ _)
    (SeqAt.list_countAt p its.toArray n dd sl (.bool true) (eqU (V.bl true))) ⟨ho, fun y hy => mem_eqAt (x := V.bl true) rfl rfl rv fl y (by simpa using hy), ?_⟩
  refine ⟨.int (bs.count true : Nat), H, I.tok _, ⟨s.toks, ?_⟩, q⟩
  rw [← ec]
end
end Sg
set_option Elab.async false
set_option linter.all false
set_option maxRecDepth 100000
set_option maxHeartbeats 4000000
namespace Sg
open PySem PySem.Spec PyProof.Rows L2
/-! ## tuples whose object is told: their methods -/
def FrzT (H : Hp) (a : Addr) (xs : List V) : Prop := ∃ ob, H a = some (.frz ob (.tup xs)) ∧ ob.cls = .type "tuple" ∧ ob.dict = none
theorem FrzT.same {H H' : Hp} (e : Same H H') {a : Addr} {xs : List V} (h : FrzT H a xs) : FrzT H' a xs := by
  obtain ⟨ob, h1, h2⟩ := h
  exact ⟨ob, e _ _ h1, h2⟩
theorem FrzT.but {p : Addr} {H H' : Hp} (e : But p H H') {a : Addr} {xs : List V} (h : FrzT H a xs) (n : a ≠ p) : FrzT H' a xs := by
  obtain ⟨ob, h1, h2⟩ := h
  exact ⟨ob, e _ _ n h1, h2⟩
section
variable {X : Cx} {o e : Expr} {es : List Expr} {to : TE} {t : TA} {name : Str} {apos cpos : Pos} {id : String} {r : V → List V → Hp → VK → Prop}
/-! ## a tuple times a number, up to 100,000 items -/
/-! ## a text times a number -/
def repS (z : Str) (n : Nat) : Str := ⟨(List.replicate n z.cps).foldl (· ++ ·) #[]⟩
theorem op_mulS : OpR X (binaryOp .Mult) (fun x y H Q => ∃ z, ∃ n : Nat, x = .str z ∧ y = .int n ∧ 2 ≤ n ∧ 2 ≤ z.length ∧ z.length * n ≤ 100000 ∧ Q (.str (repS z n)) H) := by
  intro pins s σ H x y v u Q I rx ry h
  obtain ⟨z, n, e1, e2, h1, h2, h3, q⟩ := h
  subst e1 e2
  obtain ⟨t, et⟩ := rx
  obtain ⟨t', et'⟩ := ry
  subst et et'
  have lim : (100000 : Nat) ≤ sizeLine := by rw [sizeLine_eq]; decide
  have nle : n ≤ 100000 := Nat.le_trans (Nat.le_mul_of_pos_left n (by omega)) h3
  have zle : z.length ≤ 100000 := Nat.le_trans (Nat.le_mul_of_pos_right z.length (by omega)) h3
  have ne1 : ¬ ((n : Nat) : Int) < 1 := by omega
  have no : (((n : Nat) : Int) == 1 || z.length == 0) = false := by
    rw [beq_eq_false_iff_ne.mpr (by omega), beq_eq_false_iff_ne.mpr (by omega)]; rfl
  refine SB.mul ⟨?_, fun _ _ => ?_, fun _ _ => ?_⟩ fun t' k => ?_
  · rw [decide_eq_false (by omega), decide_eq_false (by omega)]; rfl
  · have : ((z.length : Nat) : Int) ≤ (2 ^ 63 - 1) / ((n : Nat) : Int) := by
      rw [Int.le_ediv_iff_mul_le (by omega), ← Int.natCast_mul]
      exact Int.le_trans (Int.ofNat_le.mpr h3) (by decide)
    omega
  · unfold Builtin.Str.tooLong
    refine decide_eq_false ?_
    rw [Int.toNat_natCast]
    omega
  · have e : Txt.mul z ((n : Nat) : Int) = repS z n := by
      unfold Txt.mul
      rw [if_neg ne1, no, Int.toNat_natCast]; rfl
    rw [e]
    exact ⟨.str (repS z n), H, I.tok _, ⟨_, rfl⟩, q⟩
end
end Sg
set_option Elab.async false
set_option linter.all false
set_option maxRecDepth 100000
set_option maxHeartbeats 4000000
namespace Sg
open PySem PySem.Spec PyProof.Rows L2
/-! ## rows of data that may be shown -/
structure SmL (k : Nat) (ds : List PyData) : Prop where
  sh : PyData.showableAll ds = true
  dp : PyData.depthAll ds ≤ 38
  lv : PyData.leavesShortAll 24 ds = true
  bk : PyData.bulkAll ds ≤ k
def smB (k : Nat) (ds : List PyData) : Bool := PyData.showableAll ds && decide (PyData.depthAll ds ≤ 38) && PyData.leavesShortAll 24 ds && decide (PyData.bulkAll ds ≤ k)
theorem smL_by {k : Nat} {ds : List PyData} (h : smB k ds = true) : SmL k ds := by
  unfold smB at h
  simp only [Bool.and_eq_true, decide_eq_true_eq] at h
  exact ⟨h.1.1.1, h.1.1.2, h.1.2, h.2⟩
theorem SmL.le {k m : Nat} {ds : List PyData} (h : SmL k ds) (e : k ≤ m) : SmL m ds := ⟨h.sh, h.dp, h.lv, Nat.le_trans h.bk e⟩
theorem SmL.nil : SmL 0 [] := smL_by (by decide +kernel)
theorem SmL.cons {k m : Nat} {d : PyData} {ds : List PyData} (h : SmL k [d]) (g : SmL m ds) : SmL (k + m) (d :: ds) := by
  have h1 := h.sh; have h2 := h.dp; have h3 := h.lv; have h4 := h.bk
  simp only [PyData.showableAll, PyData.depthAll, PyData.leavesShortAll, PyData.bulkAll, Bool.and_true] at h1 h2 h3 h4
  refine ⟨?_, ?_, ?_, ?_⟩
  · simp only [PyData.showableAll, h1, g.sh, Bool.and_self]
  · simp only [PyData.depthAll]; have := g.dp; omega
  · simp only [PyData.leavesShortAll, h3, g.lv, Bool.and_self]
  · simp only [PyData.bulkAll]; have := g.bk; omega
theorem SmL.uncons {k : Nat} {d : PyData} {ds : List PyData} (h : SmL k (d :: ds)) : SmL k [d] ∧ SmL k ds := by
  have h1 := h.sh; have h2 := h.dp; have h3 := h.lv; have h4 := h.bk
  simp only [PyData.showableAll, PyData.depthAll, PyData.leavesShortAll, PyData.bulkAll, Bool.and_eq_true] at h1 h2 h3 h4
  refine ⟨⟨?_, ?_, ?_, ?_⟩, h1.2, by omega, h3.2, by omega⟩
  · simp only [PyData.showableAll, h1.1, Bool.and_self]
  · simp only [PyData.depthAll]; omega
  · simp only [PyData.leavesShortAll, h3.1, Bool.and_self]
  · simp only [PyData.bulkAll]; omega
theorem SmL.app {k m : Nat} : ∀ {ds es : List PyData}, SmL k ds → SmL m es → SmL (k + m) (ds ++ es)
  | [], _, _, g => g.le (Nat.le_add_left _ _)
  | d :: ds, es, h, g => by
    have h1 := h.sh; have h2 := h.dp; have h3 := h.lv; have h4 := h.bk
    simp only [PyData.showableAll, PyData.depthAll, PyData.leavesShortAll, PyData.bulkAll, Bool.and_eq_true] at h1 h2 h3 h4
    have i := SmL.app (k := PyData.bulkAll ds) ⟨h1.2, by omega, h3.2, Nat.le_refl _⟩ g
    have j := SmL.cons h.uncons.1 i
    refine ⟨j.sh, j.dp, j.lv, ?_⟩
    show PyData.bulkAll (d :: (ds ++ es)) ≤ _
    simp only [PyData.bulkAll]
    have := i.bk
    omega
theorem SmL.drop {k : Nat} : ∀ {ds : List PyData} (i : Nat), SmL k ds → SmL k (ds.drop i)
  | _, 0, h => h
  | [], _ + 1, h => h
  | _ :: _, i + 1, h => SmL.drop i h.uncons.2
theorem SmL.take {k : Nat} : ∀ {ds : List PyData} (i : Nat), SmL k ds → SmL k (ds.take i)
  | _, 0, h => by rw [List.take_zero]; exact SmL.nil.le (Nat.zero_le _)
  | [], _ + 1, h => h
  | d :: ds, i + 1, h => by
    have h4 := h.bk
    simp only [PyData.bulkAll] at h4
    have u := h.uncons
    have t := SmL.take (k := PyData.bulkAll ds) i ⟨u.2.sh, u.2.dp, u.2.lv, Nat.le_refl _⟩
    have j := SmL.cons (k := PyData.bulk d + 1) ⟨u.1.sh, u.1.dp, u.1.lv, by simp only [PyData.bulkAll]; omega⟩ t
    exact j.le h4
theorem SmL.rep {k : Nat} {ds : List PyData} (h : SmL k ds) : ∀ n : Nat, SmL (n * k) (List.replicate n ds).flatten
  | 0 => SmL.nil.le (Nat.zero_le _)
  | n + 1 => by
    rw [List.replicate_succ, List.flatten_cons]
    exact (SmL.app h (SmL.rep h n)).le (by rw [Nat.add_mul, Nat.one_mul]; omega)
theorem SmL.tup {k : Nat} {ds : List PyData} (h : SmL k ds) (e : k ≤ 400000) : GoodD (.tuple ds) :=
  ⟨by simp only [PyData.showable, h.sh], by simp only [PyData.depth]; have := h.dp; omega, by simp only [PyData.leavesShort, h.lv], by simp only [PyData.bulk]; exact Nat.le_trans h.bk e⟩
theorem SmL.lst {k : Nat} {ds : List PyData} (h : SmL k ds) (e : k ≤ 400000) : GoodD (.list ds) :=
  ⟨by simp only [PyData.showable, h.sh], by simp only [PyData.depth]; have := h.dp; omega, by simp only [PyData.leavesShort, h.lv], by simp only [PyData.bulk]; exact Nat.le_trans h.bk e⟩
theorem SmL.one {d : PyData} {k : Nat} (h : GoodD d) (e : d.depth ≤ 38) (b : d.bulk + 1 ≤ k) : SmL k [d] :=
  ⟨by simp only [PyData.showableAll, h.sh, Bool.and_self], by simp only [PyData.depthAll]; omega, by simp only [PyData.leavesShortAll, h.lv, Bool.and_self], by simp only [PyData.bulkAll]; omega⟩
theorem SmL.all {ds : List PyData} (h : ∀ d ∈ ds, SmL 100 [d]) : SmL (ds.length * 100) ds := by
  induction ds with
  | nil => exact SmL.nil.le (Nat.zero_le _)
  | cons d ds ih =>
    refine (SmL.cons (h d List.mem_cons_self) (ih fun x hx => h x (List.mem_cons_of_mem _ hx))).le ?_
    rw [List.length_cons, Nat.add_mul, Nat.one_mul]; omega
theorem DpAll.drop {K : PySem.W.Frag} {H : Hp} : ∀ {vs : List V} {ds : List PyData} (i : Nat), DpAll K H vs ds → DpAll K H (vs.drop i) (ds.drop i)
  | _, _, 0, h => h
  | _, _, _ + 1, .nil => .nil
  | _, _, i + 1, .cons _ r => DpAll.drop i r
theorem DpAll.take {K : PySem.W.Frag} {H : Hp} : ∀ {vs : List V} {ds : List PyData} (i : Nat), DpAll K H vs ds → DpAll K H (vs.take i) (ds.take i)
  | _, _, 0, h => by rw [List.take_zero, List.take_zero]; exact .nil
  | _, _, _ + 1, .nil => .nil
  | _, _, i + 1, .cons a r => .cons a (DpAll.take i r)
theorem DpAll.rep {K : PySem.W.Frag} {H : Hp} {vs : List V} {ds : List PyData} (h : DpAll K H vs ds) : ∀ n, DpAll K H (List.replicate n vs).flatten (List.replicate n ds).flatten
  | 0 => .nil
  | n + 1 => by
    rw [List.replicate_succ, List.replicate_succ, List.flatten_cons, List.flatten_cons]
    exact DpAll.app h (DpAll.rep h n)
theorem DpAll.cut {K : PySem.W.Frag} {H : Hp} {vs : List V} {ds : List PyData} (h : DpAll K H vs ds) {k : Nat} (g : SmL k ds) (lo hi : Option Int) : ∃ es, DpAll K H (cutV vs lo hi) es ∧ SmL k es := by
  unfold cutV
  exact ⟨_, DpAll.take _ (DpAll.drop _ h), SmL.take _ (SmL.drop _ g)⟩
/-! ## l != [] -/
end Sg
set_option Elab.async false
set_option linter.all false
set_option maxRecDepth 100000
set_option maxHeartbeats 4000000
namespace Sg
open PySem PySem.Spec PyProof.Rows L2
/-! ## rows of expressions, each of its own making -/
def tE (S : L2.St → Hp → Prop) (R : Hp → V → Prop) : TE := fun σ H Q => S σ H ∧ ∀ H' v, Same H H' → R H' v → Q v H'
section
variable {X : Cx} {S : L2.St → Hp → Prop} {R : Hp → V → Prop}
theorem PE.e {e : Expr} {t : TE} (h : PE X e t) (i : ∀ σ H Q, S σ H → (∀ H' v, Same H H' → R H' v → Q v H') → t σ H Q) : PE X e (tE S R) := PE.imp h fun σ H Q q => i σ H Q q.1 q.2
/-! ## tuples: + and slices, any of them -/
end
/-- all but the lists of H0 -/
def wl (H0 H : Hp) : Hp := fun b => match H0 b with
  | some (.lst _) => none
  | _ => H b
/-! ## short data -/
def SmV (K : PySem.W.Frag) (H : Hp) (v : V) : Prop := ∃ d, Dp K H v d ∧ SmL 100 [d]
theorem SmV.same {K : PySem.W.Frag} {H H' : Hp} (e : Same H H') {v : V} (h : SmV K H v) : SmV K H' v := by
  obtain ⟨d, h1, h2⟩ := h
  exact ⟨d, Dp.same e h1, h2⟩
end Sg
set_option Elab.async false
set_option linter.all false
set_option maxRecDepth 100000
set_option maxHeartbeats 4000000
namespace Sg
open PySem PySem.Spec PyProof.Rows L2
/-! ## data is kept where only tables change -/
abbrev ExtN := @LamX.ExtN
theorem ext_of {H H' : Hp} (e : Same H H') : LamX.ExtN H H' := fun b o h _ => e b o h
theorem ext_tup {K : PySem.W.Frag} {H H' : Hp} {a : Addr} {xs : List V} (e : LamX.ExtN H H') (h : SqT K H a xs) : SqT K H' a xs := by
  rcases h with (h | ⟨o, h⟩) | h
  · exact .inl (.inl (e _ _ h fun ps z => nomatch z))
  · exact .inl (.inr ⟨o, e _ _ h fun ps z => nomatch z⟩)
  · exact .inr h
theorem ext_lst {K : PySem.W.Frag} {H H' : Hp} {a : Addr} {xs : List V} (e : LamX.ExtN H H') (h : SqL K H a xs) : SqL K H' a xs := by
  rcases h with (h | ⟨o, h⟩) | h
  · exact .inl (.inl (e _ _ h fun ps z => nomatch z))
  · exact .inl (.inr ⟨o, e _ _ h fun ps z => nomatch z⟩)
  · exact .inr h
mutual
theorem Dp.ext {K : PySem.W.Frag} {H H' : Hp} (e : LamX.ExtN H H') : ∀ {v : V} {d : PyData}, Dp K H v d → Dp K H' v d
  | _, _, .non => .non
  | _, _, .bl b => .bl b
  | _, _, .int i => .int i
  | _, _, .str x => .str x
  | _, _, .lst h r => .lst (ext_lst e h) (DpAll.ext e r)
  | _, _, .tup h r => .tup (ext_tup e h) (DpAll.ext e r)
theorem DpAll.ext {K : PySem.W.Frag} {H H' : Hp} (e : LamX.ExtN H H') : ∀ {vs : List V} {ds : List PyData}, DpAll K H vs ds → DpAll K H' vs ds
  | _, _, .nil => .nil
  | _, _, .cons a r => .cons (Dp.ext e a) (DpAll.ext e r)
end
mutual
theorem Tp.ext {K : PySem.W.Frag} {H H' : Hp} (e : LamX.ExtN H H') : ∀ {v : V} {d : PyData}, Tp K H v d → Tp K H' v d
  | _, _, .int i => .int i
  | _, _, .tu h r => .tu (ext_tup e h) (TpAll.ext e r)
theorem TpAll.ext {K : PySem.W.Frag} {H H' : Hp} (e : LamX.ExtN H H') : ∀ {vs : List V} {ds : List PyData}, TpAll K H vs ds → TpAll K H' vs ds
  | _, _, .no => .no
  | _, _, .on a r => .on (Tp.ext e a) (TpAll.ext e r)
end
theorem Aq.ext {K : PySem.W.Frag} {H H' : Hp} (e : LamX.ExtN H H') {v : V} {d : PyData} (h : Aq K H v d) : Aq K H' v d := by
  cases h with
  | data h => exact .data (Dp.ext e h)
  | dic h g =>
    refine .dic (e _ _ h fun ps z => nomatch z) ?_
    cases g with
    | no => exact .no
    | one t => exact .one (Tp.ext e t)
theorem AnyV.ext {K : PySem.W.Frag} {H H' : Hp} (e : LamX.ExtN H H') {v : V} (h : AnyV K H v) : AnyV K H' v := by
  obtain ⟨d, h1, h2⟩ := h
  exact ⟨d, h1.ext e, h2⟩
theorem PenAt.ext {H H' : Hp} {p : Addr} (e : LamX.ExtN H H') (h : PenAt H p) : PenAt H' p := by
  obtain ⟨a, b, c, h1, h2⟩ := h
  exact ⟨a, b, c, e _ _ h1 (fun ps z => nomatch z), h2⟩
theorem FrzT.ext {H H' : Hp} (e : LamX.ExtN H H') {a : Addr} {xs : List V} (h : FrzT H a xs) : FrzT H' a xs := by
  obtain ⟨ob, h1, h2⟩ := h
  exact ⟨ob, e _ _ h1 (fun ps z => nomatch z), h2⟩
theorem tabs_but {T : List (Addr × Str)} {p : Addr} {H H' : Hp} (hp : PenAt H p) (e : But p H H') (t : LamX.Tabs T H) : LamX.Tabs T H' := fun x hx => by
  obtain ⟨_, _, _, hp, _⟩ := hp
  obtain ⟨ps, h1, h2, h3⟩ := t x hx
  refine ⟨ps, e _ _ (ne_of h1 hp fun z => nomatch z) h1, h2, fun pos cv hc => ?_⟩
  obtain ⟨c, e1, e2⟩ := h3 pos cv hc
  exact ⟨c, e1, e _ _ (ne_of e2 hp fun z => by unfold LamX.CodeO at z; exact nomatch z) e2⟩
theorem tabs_same {T : List (Addr × Str)} {H H' : Hp} (e : Same H H') (t : LamX.Tabs T H) : LamX.Tabs T H' := t.ext e
/-! ## the code object of a def that makes lambdas -/
theorem tab_code {K : PySem.W.Frag} {x : Str} {f c P : Addr} {fd : FuncData} {oc : Value} {od : Option Addr} {sl : Array (Option Value)} (h1 : PySem.W.nsIn K mainGlobals x = some (some (.ref f)))
    (h2 : K.lookup f = some ⟨oc, od, .func fd, sl⟩) (h3 : PySem.W.tabIn K x = some (c, P)) : fd.code = .ref c := by
  unfold PySem.W.tabIn at h3
  rw [h1] at h3
  simp only [h2] at h3
  split at h3
  · split at h3
    · split at h3
      · have := Option.some.inj h3
        rw [Prod.mk.injEq] at this
        rw [‹fd.code = _›, this.1]
      · exact nomatch h3
    · exact nomatch h3
  · exact nomatch h3
section
variable {P : Program} {w : World} {K : PySem.W.Frag} {mg : Str → Option Value} {base : Heap} {k : Nat} {f : Addr}
variable {fd : FuncData} {ps : List Str} {sp : Sp}
theorem fnG_mkC {x qual : Str} {st : Stmt} {N : List Str} {c : Addr} (F : Fun K x qual st f fd) (hc : fd.code = .ref c)
    (S : FnScope N ps (defScope st)) (arity : ∀ vs H Q, sp vs H Q E0 → vs.length = ps.length)
    (hbody : ∀ (A : Around) (outer : List Env) (s : Shared) (H : Hp) (vs : List V) (Q : VK),
      (A.deeper (envOfC qual (defScope st) s.heap.objs.size f (.ref c))).guards = some [] →
      Room k (A.deeper (envOfC qual (defScope st) s.heap.objs.size f (.ref c))) → sp vs H Q E0 →
      ∃ t, PSs (cxOf CX0 P w K mg base N qual (defScope st) f (.ref c) A outer s H E0).nox (defBody st) t ∧
        t { nx := fun _ H' => Q .non H', rt := Q } (start N vs) H) :
    FnG P w K mg base (k + 1) f fd ps sp := by
  obtain ⟨oc, od, kV, doc, pm, an, cdv, ct, osl, rfl, lk, hcd⟩ := F.ex
  obtain rfl : cdv = .ref c := hc
  refine ⟨arity, ?_⟩
  intro A outer s H args us vs Q hg hr e0 hb r hsp
  have hl := arity _ _ _ hsp
  have hk0 : ∀ b o, base.get? b = some o → s.heap.get? b = some o := fun b o e => (e0.bs b o e).1
  have KX : K.In s.heap := e0.mod.kin.keeps hk0
  have lim : s.heap.NoLimit := e0.mod.nolimit.keeps hk0
  refine codeAny_call_function hr.depth (KX _ _ lk) rfl S.co S.gen rfl (PySem.W.codeRec_of KX hcd) ?_
  refine hb _ _ _ _ (wpAny_newFunctionEnv_cells S.kind ?_ ?_)
  · rintro ⟨n, v⟩ hy
    have hn := S.par n (List.of_mem_zip hy).1
    cases hn with
    | inl q => exact .inl q
    | inr q => exact .inr ⟨q, PySem.W.cellsFrom_some _ _ _ (.inl q)⟩
  · intro env he s1 x
    subst he
    refine ⟨lim.keeps x.toInCall.keep, ?_⟩
    apply codeAny_func
    obtain ⟨t, ht, hq⟩ := hbody A outer s H vs Q hg (hr.deeper _) hsp
    have ht' := ht.nox
    have I := inv_start (CX := CX0) (E := E0) (cd := .ref c) (qual := qual) (f := f) S hr.hd e0 hl r x
    refine wpAny_mono (ht'.run [] s1 (start N vs) H _ I hq) ?_ (fun e s' hs => hs)
    intro fl s' hs
    cases fl with
    | ret u =>
      obtain ⟨v, σ', H', J, rv, q⟩ := hs
      exact ⟨v, H', J.os, J.bare, J.base, J.hok, rv, q⟩
    | next =>
      obtain ⟨σ', H', J, q⟩ := hs
      exact ⟨V.non, H', J.os, J.bare, J.base, J.hok, rfl, q⟩
    | brk => obtain ⟨_, _, _, q⟩ := hs; exact q.elim
    | cont => obtain ⟨_, _, _, q⟩ := hs; exact q.elim
end
end Sg
set_option Elab.async false
set_option linter.all false
set_option maxRecDepth 100000
set_option maxHeartbeats 4000000
namespace Sg
open PySem PySem.Spec PyProof.Rows L2
section
variable {K : PySem.W.Frag} {D C : Addr}
theorem kit_no (h0 : PySem.W.subIn K (.ref D) (.ref D) = some true) (i : PySem.W.isClsIn K C = true) (t : PySem.W.typeIn K (.ref C) = some (.type "type")) (s : PySem.W.subIn K (.ref D) (.ref C) = some false) : PySem.W.kitOne K (.ref D) (.ref C) = some false := by
  have ne : ¬ ((Value.ref D == Value.ref C) = true) := fun z => by
    have e : Value.ref D = Value.ref C := by simpa using z
    rw [← e, h0] at s
    exact nomatch s
  unfold PySem.W.kitOne
  rw [if_neg ne]
  have i' : (PySem.W.clsIn K C).isSome = true := i
  show (if ((PySem.W.clsIn K C).isSome && PySem.W.typeIn K (.ref C) == some (.type "type")) = true then PySem.W.subIn K (.ref D) (.ref C) else none) = some false
  rw [i', t]
  exact s
theorem kit_self : PySem.W.kitOne K (.ref D) (.ref D) = some true := by unfold PySem.W.kitOne; simp
theorem kit_val (s : PySem.W.subIn K (.ref D) (.type "ValueError") = some true) : PySem.W.kitOne K (.ref D) (.type "ValueError") = some true := by
  unfold PySem.W.kitOne
  rw [if_neg (by simp)]
  show (if PySem.W.kitMeta "ValueError" = true then PySem.W.subIn K (.ref D) (.type "ValueError") else none) = some true
  rw [if_pos (by decide +kernel)]
  exact s
theorem exm_sub (h1 : PySem.W.subIn K (.ref C) (.type "BaseException") = some true) (h2 : PySem.W.isClsIn K C = true) (h3 : PySem.W.typeIn K (.ref C) = some (.type "type")) (h4 : PySem.W.subIn K (.ref D) (.ref C) = some true) :
    PySem.W.exmOne K (.ref D) (.ref C) = some true := by
  have e1 : (PySem.W.subIn K (.ref C) (.type "BaseException") == some true) = true := by rw [h1] <;> rfl
  have h2' : (PySem.W.clsIn K C).isSome = true := h2
  have e2 : ((PySem.W.clsIn K C).isSome && PySem.W.typeIn K (.ref C) == some (.type "type")) = true := by rw [h2', h3] <;> rfl
  show (if (PySem.W.subIn K (.ref C) (.type "BaseException") == some true) = true then (if ((PySem.W.clsIn K C).isSome && PySem.W.typeIn K (.ref C) == some (.type "type")) = true then PySem.W.subIn K (.ref D) (.ref C) else none) else none) = some true
  rw [if_pos e1, if_pos e2]
  exact h4
end
end Sg
set_option Elab.async false
set_option linter.all false
set_option maxRecDepth 100000
set_option maxHeartbeats 4000000
namespace Sg
open PySem PySem.Spec PyProof.Rows L2
/-! ## short data, a dict at most on top -/
def AnyS (K : PySem.W.Frag) (H : Hp) (v : V) : Prop := ∃ d, Aq K H v d ∧ GoodD d ∧ d.bulk ≤ 900
theorem AnyS.same {K : PySem.W.Frag} {H H' : Hp} (e : Same H H') {v : V} (h : AnyS K H v) : AnyS K H' v := by
  obtain ⟨d, h1, h2⟩ := h
  exact ⟨d, h1.same e, h2⟩
theorem AnyS.ext {K : PySem.W.Frag} {H H' : Hp} (e : LamX.ExtN H H') {v : V} (h : AnyS K H v) : AnyS K H' v := by
  obtain ⟨d, h1, h2⟩ := h
  exact ⟨d, h1.ext e, h2⟩
theorem AnyS.any {K : PySem.W.Frag} {H : Hp} {v : V} (h : AnyS K H v) : AnyV K H v := by
  obtain ⟨d, h1, h2, _⟩ := h
  exact ⟨d, h1, h2⟩
def AllS (K : PySem.W.Frag) (H : Hp) (vs : List V) : Prop := ∀ v ∈ vs, AnyS K H v
theorem AllS.same {K : PySem.W.Frag} {H H' : Hp} (e : Same H H') {vs : List V} (h : AllS K H vs) : AllS K H' vs := fun v hv => (h v hv).same e
theorem AllS.app {K : PySem.W.Frag} {H : Hp} {vs us : List V} (h : AllS K H vs) (g : AllS K H us) : AllS K H (vs ++ us) := fun v hv => (List.mem_append.mp hv).elim (h v) (g v)
/-! ## what is no instance of an own class -/
def PlainV (K : PySem.W.Frag) (H : Hp) (v : V) : Prop := ∃ d : PyData, TyX K H v (.type (tyN d))
theorem AnyV.plain {K : PySem.W.Frag} {H : Hp} {v : V} (h : AnyV K H v) : PlainV K H v := by
  obtain ⟨d, h1, _⟩ := h
  exact ⟨d, aq_ty h1⟩
theorem call_isiP {X : Cx} {K : PySem.W.Frag} {C : Addr} (hK : X.K = K) (hC : NoInst K C) : CallR X (.builtin "isinstance") (fun xs H Q => ∃ v, xs = [v, .ref C] ∧ PlainV K H v ∧ Q (.bl false) H) := by
  subst hK
  intro pins s σ H xs us Q I r h
  obtain ⟨v, rfl, ⟨d, hd⟩, q⟩ := h
  exact call_isi pins s σ H _ us Q I r ⟨v, .ref C, _, _, _, rfl, .own C, hd, hC d, q⟩
/-! ## laps, worths: of any data -/
theorem bulk_len : ∀ ds : List PyData, ds.length ≤ PyData.bulkAll ds
  | [] => Nat.le_refl _
  | d :: ds => by
    simp only [PyData.bulkAll, List.length_cons]
    have := bulk_len ds
    omega
theorem tup_short {ds : List PyData} (h : (PyData.tuple ds).bulk ≤ 900) : ds.length ≤ 900 := by
  simp only [PyData.bulk] at h
  exact Nat.le_trans (bulk_len ds) h
end Sg
set_option Elab.async false
set_option linter.all false
set_option maxRecDepth 100000
set_option maxHeartbeats 4000000
set_option Elab.async false
set_option linter.all false
set_option maxRecDepth 100000
set_option maxHeartbeats 4000000
namespace Sg
open PySem PySem.Spec PyProof.Rows L2
/-! ## data that may hold a Line: to the built-in types a Line looks as None does -/
mutual
inductive Lp (K : PySem.W.Frag) (C : Addr) (H : Hp) : V → PyData → Prop
  | non : Lp K C H .non .none
  | bl (b : Bool) : Lp K C H (.bl b) (.bool b)
  | int (i : Int) : Lp K C H (.int i) (.int i)
  | str (x : Str) : Lp K C H (.str x) (.str x)
  | lst {a : Addr} {xs : List V} {ds : List PyData} : SqL K H a xs → LpAll K C H xs ds → Lp K C H (.ref a) (.list ds)
  | tup {a : Addr} {xs : List V} {ds : List PyData} : SqT K H a xs → LpAll K C H xs ds → Lp K C H (.ref a) (.tuple ds)
  | line {a : Addr} {ws : List (List Int)} : LineAt K C H a ws → Lp K C H (.ref a) .none
  | dic {a : Addr} {kvs : List (L2.Key × V)} : H a = some (.dK kvs) → Lp K C H (.ref a) (.dict [])
inductive LpAll (K : PySem.W.Frag) (C : Addr) (H : Hp) : List V → List PyData → Prop
  | nil : LpAll K C H [] []
  | cons {v : V} {vs : List V} {d : PyData} {ds : List PyData} : Lp K C H v d → LpAll K C H vs ds → LpAll K C H (v :: vs) (d :: ds)
end
mutual
theorem Lp.ext {K : PySem.W.Frag} {C : Addr} {H H' : Hp} (e : LamX.ExtN H H') : ∀ {v : V} {d : PyData}, Lp K C H v d → Lp K C H' v d
  | _, _, .non => .non
  | _, _, .bl b => .bl b
  | _, _, .int i => .int i
  | _, _, .str x => .str x
  | _, _, .lst h r => .lst (ext_lst e h) (LpAll.ext e r)
  | _, _, .tup h r => .tup (ext_tup e h) (LpAll.ext e r)
  | _, _, .line h => .line (h.stay ⟨fun _ _ z => ext_tup e z, fun _ _ _ _ z => e _ _ z fun ps y => nomatch y⟩)
  | _, _, .dic h => .dic (e _ _ h fun ps y => nomatch y)
theorem LpAll.ext {K : PySem.W.Frag} {C : Addr} {H H' : Hp} (e : LamX.ExtN H H') : ∀ {vs : List V} {ds : List PyData}, LpAll K C H vs ds → LpAll K C H' vs ds
  | _, _, .nil => .nil
  | _, _, .cons a r => .cons (Lp.ext e a) (LpAll.ext e r)
end
theorem Lp.same {K : PySem.W.Frag} {C : Addr} {H H' : Hp} (e : Same H H') {v : V} {d : PyData} (h : Lp K C H v d) : Lp K C H' v d := h.ext (ext_of e)
theorem LpAll.same {K : PySem.W.Frag} {C : Addr} {H H' : Hp} (e : Same H H') {vs : List V} {ds : List PyData} (h : LpAll K C H vs ds) : LpAll K C H' vs ds := h.ext (ext_of e)
theorem LpAll.len {K : PySem.W.Frag} {C : Addr} {H : Hp} : ∀ {vs : List V} {ds : List PyData}, LpAll K C H vs ds → vs.length = ds.length
  | _, _, .nil => rfl
  | _, _, .cons _ r => congrArg (· + 1) (LpAll.len r)
theorem LpAll.at {K : PySem.W.Frag} {C : Addr} {H : Hp} : ∀ {vs : List V} {ds : List PyData} {i : Nat} {v : V}, LpAll K C H vs ds → vs[i]? = some v → ∃ d, ds[i]? = some d ∧ Lp K C H v d
  | _, _, _, _, .nil, h => nomatch h
  | _, _, 0, _, .cons a _, h => by cases h; exact ⟨_, rfl, a⟩
  | _, _, i + 1, _, .cons _ r, h => LpAll.at (i := i) r h
mutual
theorem Dp.lp {K : PySem.W.Frag} {C : Addr} {H : Hp} : ∀ {v : V} {d : PyData}, Dp K H v d → Lp K C H v d
  | _, _, .non => .non
  | _, _, .bl b => .bl b
  | _, _, .int i => .int i
  | _, _, .str x => .str x
  | _, _, .lst h r => .lst h (DpAll.lp r)
  | _, _, .tup h r => .tup h (DpAll.lp r)
theorem DpAll.lp {K : PySem.W.Frag} {C : Addr} {H : Hp} : ∀ {vs : List V} {ds : List PyData}, DpAll K H vs ds → LpAll K C H vs ds
  | _, _, .nil => .nil
  | _, _, .cons a r => .cons (Dp.lp a) (DpAll.lp r)
end
theorem Lp.tuple_inv {K : PySem.W.Frag} {C : Addr} {H : Hp} {v : V} {ds : List PyData} (h : Lp K C H v (.tuple ds)) : ∃ a xs, v = .ref a ∧ SqT K H a xs ∧ LpAll K C H xs ds := by
  cases h with
  | tup h1 h2 => exact ⟨_, _, rfl, h1, h2⟩
theorem Lp.int_inv {K : PySem.W.Frag} {C : Addr} {H : Hp} {v : V} {i : Int} (h : Lp K C H v (.int i)) : v = .int i := by
  cases h; rfl
theorem lpInts_v {K : PySem.W.Frag} {C : Addr} {H : Hp} : ∀ {xs : List V} {ns : List Int}, LpAll K C H xs (iD ns) → xs = ns.map V.int
  | [], [], _ => rfl
  | _ :: _, [], h => by cases h
  | [], _ :: _, h => by cases h
  | x :: xs, n :: ns, h => by
    cases h with
    | cons a r =>
      rw [Lp.int_inv a, lpInts_v (ns := ns) r]; rfl
/-- what a Line is to the built-in types -/
structure LineKit (K : PySem.W.Frag) (C : Addr) : Prop where
  ty : ∀ {H : Hp} {a : Addr} {ws : List (List Int)}, LineAt K C H a ws → TyX K H (.ref a) (.ref C)
  no : ∀ u ∈ ["tuple", "int", "bool", "str", "list"], PySem.W.kitOne K (.ref C) (.type u) = some false
theorem call_isiL {X : Cx} {K : PySem.W.Frag} {C : Addr} (hK : X.K = K) (L : LineKit K C) : CallR X (.builtin "isinstance") (fun xs H Q => ∃ v d u, xs = [v, .ty u] ∧ Lp K C H v d ∧ (u = "tuple" ∨ u = "int" ∨ u = "bool" ∨ u = "str" ∨ u = "list") ∧ Q (.bl (isB u d)) H) := by
  subst hK
  intro pins s σ H xs us Q I r h
  obtain ⟨v, d, u, rfl, hd, hu, q⟩ := h
  have plain : ∀ d' : PyData, TyX X.K H v (.type (tyN d')) → d' = d → wpAny (model X.prog X.w) X.A (call (.builtin "isinstance") us) (EP X pins σ Q) X.xe s := fun d' ty e => by
    subst e
    exact call_isi pins s σ H _ us Q I r ⟨v, .ty u, _, _, _, rfl, .ty _, ty, kit_ty (isB_kit hu d'), q⟩
  cases hd with
  | non => exact plain .none (.base .non) rfl
  | bl b => exact plain (.bool b) (.base (.bl b)) rfl
  | int i => exact plain (.int i) (.base (.int i)) rfl
  | str x => exact plain (.str x) (.base (.str x)) rfl
  | lst h _ => exact plain (.list _) (tyL h) rfl
  | tup h _ => exact plain (.tuple _) (tyT h) rfl
  | dic h => exact plain (.dict []) (.base (.dK h)) rfl
  | line h =>
    have e : isB u .none = false := by rcases hu with rfl | rfl | rfl | rfl | rfl <;> rfl
    rw [e] at q
    have hm : u ∈ ["tuple", "int", "bool", "str", "list"] := by rcases hu with rfl | rfl | rfl | rfl | rfl <;> simp
    exact call_isi pins s σ H _ us Q I r ⟨_, .ty u, .ref C, .type u, false, rfl, .ty _, L.ty h, L.no u hm, q⟩
end Sg
set_option Elab.async false
set_option linter.all false
set_option maxRecDepth 100000
set_option maxHeartbeats 4000000
namespace Sg
open PySem PySem.Spec PyProof.Rows L2
/-! ## a call that raises inside a list comprehension -/
theorem hide1_some {B : Heap} {C b : Addr} {o : Obj} (e : B.get? b = some o) (n : b ≠ C) : (PySem.W.hideAll B [C]).get? b = some o := PySem.W.hideAll_get _ e fun z => n (List.mem_singleton.mp z)
theorem hide1_of {B : Heap} {C b : Addr} {o : Obj} (e : (PySem.W.hideAll B [C]).get? b = some o) : B.get? b = some o ∧ b ≠ C := ⟨PySem.W.of_hideAll _ e, fun z => by
  rw [PySem.W.hideAll_none _ (List.mem_singleton.mpr z)] at e; cases e⟩
theorem hide1_none {B : Heap} {C b : Addr} (e : B.get? b = none) : (PySem.W.hideAll B [C]).get? b = none := by
  cases q : (PySem.W.hideAll B [C]).get? b with
  | none => rfl
  | some o => rw [(hide1_of q).1] at e; cases e
/-- the context of a block that may raise -/
abbrev blkX (X : Cx) (s : Shared) (H : Hp) (scope : Scope) (ce : Env) (fp : List Addr) (xe : Value → Shared → Prop) : Cx := (X.blk s H scope ce fp).tr [] xe
/-- an exception of the block leaves it: noted by the def's frame, the block's names let go, on in the def's own air -/
theorem blk_road {X : Cx} {W : WX} {E : XK} {pins pn : List (Addr × Obj)} {σ σ5 : L2.St} {H3 H5 : Hp} {s3 s5 s6 : Shared} {scope : Scope} {ce : Env} {fp : List Addr} {xe : Value → Shared → Prop} {u : Value}
    (I3 : Inv X pins σ H3 s3) (hs : X.stack = X.env :: X.outer) (hf : X.env.frame = some X.env.locals) (tk : Takes X W) (hW : ∀ cls d σ H, E cls d H → W cls d σ H)
    (hcf : ce.frame = X.env.frame) (hC : ce.locals = s3.heap.objs.size) (f3 : ∀ b ∈ fp, (b ∈ X.ex ∨ X.s_0.heap.objs.size ≤ b) ∧ b ≠ X.env.locals ∧ (∀ x c, X.env.cells.lookup x = some c → c ≠ b) ∧ ∀ p ∈ X.pn ++ pins, p.1 ≠ b)
    (I5 : Inv (blkX X s3 H3 scope ce fp xe) pn σ5 H5 s5) (c : L2.CX X.prog X.w X.stack H5 s5 E u s6) :
    notedBy (model X.prog X.w) X.A ce (CompFails (model X.prog X.w) X.A X.xe ce) u s6 := by
  obtain ⟨a, B, H6, cls, d, rfl, fl, hok, ub, na, os, ag, hE⟩ := c
  have hfr : X.A.frames = some (X.env :: X.outer) := by rw [I3.ok.frames, hs]
  show wpAny _ _ (noteFrame (.ref a) ce) _ _ s6
  rw [noteFrame_env _ hcf]
  have fl' := fl
  rw [hs] at fl'
  refine HandSPX.looks_onZ Zc.steady hfr hf fl' fun h7 hd7 up7 => ?_
  have inF : ∀ b ∈ frs X.stack, ∃ o, s3.heap.get? b = some o ∧ ∀ vs, o.data ≠ .fields vs := fun b hb => (I3.stack.mem hb).2
  have cf : ce.locals ∉ frs X.stack := fun hm => by
    obtain ⟨o, e, _⟩ := inF _ hm
    have h1 := Heap.lt_size e
    rw [hC] at h1
    exact absurd h1 (Nat.lt_irrefl _)
  have nC : H5 ce.locals = none := I5.free
  obtain ⟨m, ⟨oC, es, ep, hoC, hdC, rC⟩, _⟩ := I5.loc
  have hBC : B.get? ce.locals = some oC := ub.keep _ oC hoC nC cf
  have n6C : H6 ce.locals = none := ub.free _ oC hoC nC
  have hn7 : h7.Ns ce.locals m := ⟨oC, es, ep, hd7.1 _ _ hBC, hdC, rC⟩
  refine ⟨m, hn7, fun h8 m8 hn8 sb8 => ?_⟩
  have neC : ∀ b, B.get? b = none → b ≠ ce.locals := fun b z e => by rw [e, hBC] at z; cases z
  have held : HandSPX.HeldZ (PySem.W.hideAll B [ce.locals]) (X.env :: X.outer) a (Zc cls d) X.env.locals h8 := by
    obtain ⟨k1, k2, k3, oe, vs, T, oT, ts, he, hz, hd, h1, hnT, hTe, hT, hdT, h3⟩ := hd7
    refine ⟨fun b o e => ?_, hide1_none k2, funFrames_none (Heap.FunFrames.sameBut sb8 hn8 k3) fun L hL => hide1_none (k3.mem hL).1, oe, vs, T, oT, ts, (sb8.2 a (neC a k2)).trans he, hz, hd, h1, hide1_none hnT, hTe, (sb8.2 T (neC T hnT)).trans hT, hdT, h3⟩
    obtain ⟨e1, n1⟩ := hide1_of e
    exact (sb8.2 b n1).trans (k1 b o e1)
  obtain ⟨_, _, _, oe, vs, T, oT, ts, he, hz, hd, h1, _⟩ := id held
  unfold PySem.passOn
  refine wpAny_bind (wpAny_field he hd h1 ?_)
  rw [if_neg (show ¬ ((Value.ref T == Value.none) = true) from by simp)]
  have fin : wpAny (model X.prog X.w) X.A (setFlight (.ref a) ce.frame) (fun _ s4 => wpAny (model X.prog X.w) X.A (throw (.ref a) : Sem Value) (fun _ _ => False) X.xe s4) X.xe { s6 with heap := h8 } := by
    rw [hcf, hf]
    refine HandSPX.setFlight_onZ held fun h9 hh9 up9 => wpAny_throw (tk _ _ ?_)
    obtain ⟨G, g1, g2⟩ := restrict h9 fun b => ((PySem.W.hideAll B [ce.locals]).get? b).isSome || decide (b ∈ frs X.stack)
    have st : (PySem.W.hideAll B [ce.locals]).StaysIn h9 := hh9.1
    have gB : ∀ b o, (PySem.W.hideAll B [ce.locals]).get? b = some o → G.get? b = some o := fun b o e => by
      rw [g1 b (by simp [e])]
      exact st b o e
    have gF : ∀ b, b ∈ frs X.stack → G.get? b = h9.get? b := fun b hb => g1 b (by simp [hb])
    have og : ∀ b o, G.get? b = some o → h9.get? b = some o ∧ (((PySem.W.hideAll B [ce.locals]).get? b).isSome = true ∨ b ∈ frs X.stack) := fun b o e => by
      cases q : (((PySem.W.hideAll B [ce.locals]).get? b).isSome || decide (b ∈ frs X.stack)) with
      | false => rw [g2 b q] at e; cases e
      | true =>
        rw [g1 b q] at e
        exact ⟨e, by simpa [Bool.or_eq_true] using q⟩
    have ltC : ∀ b o, s3.heap.get? b = some o → b ≠ ce.locals := fun b o e z => by
      have h1 := Heap.lt_size e
      rw [z, hC] at h1
      exact absurd h1 (Nat.lt_irrefl _)
    have sl9 : ∀ b o, b ∈ frs X.stack → b ∉ fp → s3.heap.get? b = some o → H3 b = none → ∃ sl, G.get? b = some { o with slots := sl } := fun b o hb hx e n => by
      obtain ⟨o', e', hnf⟩ := inF b hb
      rw [e] at e'; cases e'
      obtain ⟨sl1, q1⟩ := I5.base.slot b o e n hb hx
      obtain ⟨sl2, q2⟩ := ub.slot b _ q1 hb
      obtain ⟨sl3, q3⟩ := up7 b _ q2 hnf
      obtain ⟨sl4, q4⟩ := up9 b _ ((sb8.2 b (ltC b o e)).trans q3) hnf
      exact ⟨sl4, by rw [gF b hb]; exact q4⟩
    have gs : ∀ b o, b ∉ frs X.stack → s5.heap.get? b = some o → b ≠ ce.locals → ∃ o', G.get? b = some o' := fun b o hb e n => by
      obtain ⟨o', q⟩ := ub.there b o e hb
      exact ⟨o', gB b o' (hide1_some q n)⟩
    have hokB : HOk X.prog X.w H6 (PySem.W.hideAll B [ce.locals]) := fun b o q => (hok b o q).stay (fun c v hc r => hide1_some r fun z => by
        rcases hc with hc | hc
        · rw [← hc, z, n6C] at q; cases q
        · rw [z, n6C] at hc; cases hc) (fun _ r => r) fun _ _ r => r
    refine ⟨a, PySem.W.hideAll B [ce.locals], { s6 with heap := G }, pins, σ, H6, cls, d, rfl, ?_, fun b o e hb => ?_, Heap.UpToSlots.of_keeps fun b o e => (og b o e).1, .inr (.inr (by rw [hs]; exact hh9)), na, rfl, ag, hW _ _ _ _ hE⟩
    · refine I3.call' (ch := fp) (os.trans I5.os) ⟨fun b o e n hb hx => ?_, fun b o e n hb hx => sl9 b o hb hx e n, fun b o e n hx => ?_, fun b o e hx => ?_, fun b xs e => ub.tups b xs (I5.base.tups b xs e), fun b o xs e => ub.frzs b o xs (I5.base.frzs b o xs e), fun b ps e => ?_⟩ (hokB.kept gB) ag f3
      · have q := ub.keep b o (I5.base.keep b o e n hb hx) (I5.base.free b o e n hx) hb
        exact gB b o (hide1_some q (ltC b o e))
      · obtain ⟨o', q⟩ := I5.base.there b o e hx
        exact ub.free b o' q (I5.base.free b o e n hx)
      · obtain ⟨o', q⟩ := I5.base.there b o e hx
        by_cases hb : b ∈ frs X.stack
        · obtain ⟨sl, z⟩ := sl9 b o hb hx e (I3.stkFree b hb)
          exact ⟨_, z⟩
        · exact gs b o' hb q (ltC b o e)
      · obtain ⟨m1, e1⟩ := I5.base.tbls b ps e
        obtain ⟨m2, e2⟩ := ub.tbls b _ e1
        exact ⟨m1 ++ m2, by rw [e2, Array.append_assoc]⟩
    · obtain ⟨e', h⟩ := og b o e
      rcases h with h | h
      · obtain ⟨o', q⟩ := Option.isSome_iff_exists.mp h
        have z := st b o' q
        rw [e'] at z; cases z
        exact q
      · exact absurd h hb
  first
    | exact wpAny_bind (wpAny_pure (wpAny_bind fin))
    | exact wpAny_bind fin
end Sg
set_option Elab.async false
set_option linter.all false
set_option maxRecDepth 100000
set_option maxHeartbeats 4000000
namespace Sg
open PySem PySem.Spec PyProof.Rows L2
variable {X : Cx}
/-- a list comprehension whose items may raise (one clause) -/
theorem lcx_core {pins : List (Addr × Obj)} {s : Shared} {σ : L2.St} {H : Hp} {Q : VK} {W : WX} {E : XK} {elt tg iter : Expr} {ifs : List Expr} {scope : Scope} {own : List (Str × Nat)} {pos pos' : Pos} {wi : TI} {g : TG} {tt : TT} {te : TE} {use : Option (Value → Sem Unit)} {Qf : Value → Shared → Prop}
    (hc : X.calm = true) (hN : X.N.Nodup) (hst : X.stack = X.env :: X.outer) (hf : X.env.frame = some X.env.locals) (tk : Takes X W) (hW : ∀ cls d σ H, E cls d H → W cls d σ H)
    (I : Inv X pins σ H s) (hi : PI X tg iter wi) (ok : BlkOk X.N X.env.scope scope own)
    (hg : ∀ (s : Shared) (H : Hp) (C : Addr) (cl : List (Str × Addr)) (fp : List Addr) (xe : Value → Shared → Prop), PG (blkX X s H scope (compEnvC scope cl C X.env) fp xe) tg g)
    (ht : ∀ (s : Shared) (H : Hp) (C : Addr) (cl : List (Str × Addr)) (fp : List Addr) (xe : Value → Shared → Prop), PTs (blkX X s H scope (compEnvC scope cl C X.env) fp xe) ifs tt)
    (he : ∀ (s : Shared) (H : Hp) (C : Addr) (cl : List (Str × Addr)) (fp : List Addr) (xe : Value → Shared → Prop), (∀ σ, PassesAt (L2.CX X.prog X.w) (blkX X s H scope (compEnvC scope cl C X.env) fp xe) σ E) → PE (blkX X s H scope (compEnvC scope cl C X.env) fp xe) elt te)
    (hs : ∀ x, foldedSetIterable iter X.env x = pure x) (h : tLc wi g tt te (own.map (·.2)) σ H Q)
    (hRR : ∀ D (ce : Env) s' m H', Inv X pins σ H' s' → Q (.ref D) H' → s'.heap.Ns ce.locals m → FpOk X pins H' ce.locals → compEnds (model X.prog X.w) X.A X.xe use Qf (.ref D) ce (.ok .next) s') :
    wpAny (model X.prog X.w) X.A (comprehension (.ListComp elt [⟨tg, iter, ifs, 0⟩] scope pos) scope X.env pos' (newList []) false (eval iter X.env) use) Qf X.xe s := by
  have hfree : ∀ y ∈ scope.names, y.2 = .free → ∃ c, X.env.cells.lookup y.1 = some c := fun y hy e => (ok.free y hy e).elim (fun k => I.ok.has _ (.inl k)) fun k => I.ok.has _ (.inr k)
  refine comprehension_at (use := use) rfl hs (closure_ok hfree) ok.kind (fun y hy e => by rw [ok.uniq y hy, e]) (thn (hi.run pins s σ H _ I h) fun xv s1 hx => thn hx fun itv s2 h2 => ?_)
  obtain ⟨it, fp, tn, J, H2, e, I2, T, st2, f2, q⟩ := h2
  subst e
  refine wpAny_newObj_type (newEnv_comp ?_) (by show 0 ≤ sizeLine; decide)
  have hDn : H2 s2.heap.objs.size = none := I2.hok.fresh (Nat.le_refl _)
  obtain ⟨V0, ⟨m0, w0⟩, turn⟩ := q s2.heap.objs.size hDn
  have sz : ∀ b ∈ fp, b < s2.heap.objs.size := fun b hb => by
    obtain ⟨o, e, _⟩ := T.obj _ _ st2 b hb
    exact Heap.lt_size e
  have kp2 : ∀ b o, s2.heap.get? b = some o → (s2.heap.push { cls := .type "list", data := .seq ([] : List Value).toArray }).get? b = some o := fun b o e => Heap.get?_push_of_some _ e
  have I3' : Inv X pins σ (upd H2 s2.heap.objs.size (.lst [])) { s2 with heap := s2.heap.push { cls := .type "list", data := .seq ([] : List Value).toArray } } :=
    I2.laid (t' := s2.toks) kp2 (Nat.le_refl _) ⟨Nat.zero_le _, [], 0, .nil, Heap.get?_push_size _ rfl⟩
  have f3' : ∀ b ∈ fp, FpOk X pins (upd H2 s2.heap.objs.size (.lst [])) b ∧ b < (s2.heap.push { cls := .type "list", data := .seq ([] : List Value).toArray }).objs.size := fun b hb =>
    ⟨⟨by rw [upd_ne (Nat.ne_of_lt (sz b hb))]; exact (f2 b hb).1, (f2 b hb).2⟩, by rw [Heap.size_push]; exact Nat.lt_succ_of_lt (sz b hb)⟩
  have st3' : tn 0 (s2.heap.push { cls := .type "list", data := .seq ([] : List Value).toArray }) := T.keep _ _ _ st2 fun b _ o e => kp2 b o e
  generalize hs3 : ({ s2 with heap := s2.heap.push { cls := .type "list", data := .seq ([] : List Value).toArray } } : Shared) = s3 at I3'
  have h3 : s2.heap.push { cls := .type "list", data := .seq ([] : List Value).toArray } = s3.heap := by rw [← hs3]
  rw [h3] at f3' st3'
  generalize s2.heap.objs.size = D at hDn w0 turn I3' f3' ⊢
  generalize upd H2 D (.lst []) = H3 at w0 I3' f3'
  have I4' := block_start I3' ok hN f3'
  show codeAny _ _ (.compStart (.ListComp elt [⟨tg, iter, ifs, 0⟩] scope pos) 0 (.ref it) (.ref D) (compEnvC scope (cellsFrom (s3.heap.objs.size + 1) scope.names (cloFrom X.env.cells scope.names [])) s3.heap.objs.size X.env))
    (compEnds (model X.prog X.w) X.A X.xe use Qf (.ref D) (compEnvC scope (cellsFrom (s3.heap.objs.size + 1) scope.names (cloFrom X.env.cells scope.names [])) s3.heap.objs.size X.env)) { s3 with heap := pushCells (s3.heap.push { cls := .type "dict", data := .dict #[] }) scope.names }
  have nfp : ∀ b ∈ fp, H3 b = none := fun b hb => (f3' b hb).1.1
  generalize hce : compEnvC scope (cellsFrom (s3.heap.objs.size + 1) scope.names (cloFrom X.env.cells scope.names [])) s3.heap.objs.size X.env = ce at I4' ⊢
  have cL : ce.locals = s3.heap.objs.size := by subst hce; rfl
  have cF : ce.frame = X.env.frame := by subst hce; rfl
  -- what leaves the block
  let xe : Value → Shared → Prop := notedBy (model X.prog X.w) X.A ce fun x s' => compEnds (model X.prog X.w) X.A X.xe use Qf (.ref D) ce (.error x) s'
  have road : ∀ σ', PassesAt (L2.CX X.prog X.w) (blkX X s3 H3 scope ce fp xe) σ' E := fun σ' pn H5 s5 u s6 I5 c => by
    have z := blk_road I3' hst hf tk hW cF cL (fun b hb => ⟨(f3' b hb).1.2.2.2.1, (f3' b hb).1.2.1, (f3' b hb).1.2.2.2.2.1, (f3' b hb).1.2.2.2.2.2⟩) I5 c
    show wpAny _ _ (noteFrame u ce) _ _ _
    cases use <;> exact z
  have pg := hg s3 H3 s3.heap.objs.size (cellsFrom (s3.heap.objs.size + 1) scope.names (cloFrom X.env.cells scope.names [])) fp xe
  have pt := ht s3 H3 s3.heap.objs.size (cellsFrom (s3.heap.objs.size + 1) scope.names (cloFrom X.env.cells scope.names [])) fp xe
  have pe := he s3 H3 s3.heap.objs.size (cellsFrom (s3.heap.objs.size + 1) scope.names (cloFrom X.env.cells scope.names [])) fp xe
  rw [hce] at pg pt pe
  have pe := pe road
  have I4 : Inv (blkX X s3 H3 scope ce fp xe) [] (wipe σ (own.map (·.2))) H3 { s3 with heap := pushCells (s3.heap.push { cls := .type "dict", data := .dict #[] }) scope.names } := I4'.toTry xe
  have st4 : tn 0 (pushCells (s3.heap.push { cls := .type "dict", data := .dict #[] }) scope.names) := T.keep _ _ _ st3' fun b _ o e => pushCells_keeps _ _ _ _ (Heap.get?_push_of_some _ e)
  generalize hs4 : ({ s3 with heap := pushCells (s3.heap.push { cls := .type "dict", data := .dict #[] }) scope.names } : Shared) = s4 at I4 ⊢
  have st4 : tn 0 s4.heap := by rw [← hs4]; exact st4
  have stat : ∀ {σ' : L2.St} {H' : Hp} {s' : Shared}, Inv (blkX X s3 H3 scope ce fp xe) [] σ' H' s' → (∀ b ∈ fp, H' b = none) → ∀ b ∈ fp, FpOk (blkX X s3 H3 scope ce fp xe) [] H' b := fun {σ' H' s'} J' hn b hb =>
    ⟨hn b hb, (J'.ok.exf b hb).1, J'.ok.exfs b hb, .inl hb, fun x c e => (J'.ok.exf b hb).2 x c e, fun p hp => absurd (show p ∈ ([] : List (Addr × Obj)) ++ [] from hp) (by simp)⟩
  have loop : codeAny (model X.prog X.w) X.A (.compLoop (.ListComp elt [⟨tg, iter, ifs, 0⟩] scope pos) 0 (.ref it) (.ref D) ce) (compEnds (model X.prog X.w) X.A X.xe use Qf (.ref D) ce) s4 := by
    refine compLoop_any (fun n s' => ∃ i H', Inv (blkX X s3 H3 scope ce fp xe) [] (wipe σ (own.map (·.2))) H' s' ∧ tn i s'.heap ∧ (∀ b ∈ fp, H' b = none) ∧ V0 i n H') ?_ m0 ⟨0, H3, I4, st4, nfp, w0⟩
    rintro n s5 ⟨i, H5, I5, st5, n5, w5⟩
    rcases turn i n H5 w5 with ⟨stop, qq⟩ | ⟨go, Nx, hNx, step⟩
    · refine thnF (T.done (blkX X s3 H3 scope ce fp xe) rfl rfl rfl hc i [] s5 _ H5 (fun _ _ => False) I5 (stat I5 n5) st5 stop) fun r s6 ⟨hr, I6⟩ => ?_
      subst hr
      have I7 : Inv X pins σ H5 s6 := I3'.call' (ch := fp) I6.os I6.base I6.hok I6.bare fun b hb => ⟨(f3' b hb).1.2.2.2.1, (f3' b hb).1.2.1, (f3' b hb).1.2.2.2.2.1, (f3' b hb).1.2.2.2.2.2⟩
      have nC : H5 ce.locals = none := I6.free
      obtain ⟨m, hn, _⟩ := I6.loc
      exact hRR D ce s6 m H5 I7 qq hn (by rw [cL] at nC ⊢; exact I3'.fpOk (Nat.le_refl _) nC)
    · refine thnF (T.item (blkX X s3 H3 scope ce fp xe) rfl rfl rfl hc i [] s5 _ H5 (fun _ _ => False) I5 (stat I5 n5) st5 go) fun r s6 ⟨u, hr, h6⟩ => ?_
      subst hr
      refine thnF h6 fun _ s7 ⟨x, H7, I7, r7, y7, st7, n7⟩ => ?_
      have I7' := I7.pinned (stat I7 n7) (T.obj _ _ st7)
      refine thn (pg.run _ s7 _ H7 x u _ I7' r7 (step x H7 y7)) fun _ s8 ⟨σ8, H8, I8, hw8, q8⟩ => ?_
      refine thn (pt.run _ s8 σ8 H8 _ I8 q8) fun b s9 ⟨H9, I9, q9⟩ => ?_
      have fin : ∀ {s' : Shared} {H' : Hp}, Inv (blkX X s3 H3 scope ce fp xe) ([] ++ pinsAt fp s7.heap) σ8 H' s' → Nx H' → ∃ m, m < n ∧ ∃ i H', Inv (blkX X s3 H3 scope ce fp xe) [] (wipe σ (own.map (·.2))) H' s' ∧ tn i s'.heap ∧ (∀ b ∈ fp, H' b = none) ∧ V0 i m H' := fun {s' H'} I' nx => by
        obtain ⟨m', hm, w'⟩ := hNx H' nx
        have pin' : ∀ b ∈ fp, ∀ o, s7.heap.get? b = some o → s'.heap.get? b = some o ∧ H' b = none := fun b hb o e =>
          let z := I'.pin (b, o) (List.mem_append_right _ (List.mem_append_right _ (mem_pinsAt hb e)))
          ⟨z.1, z.2.1⟩
        refine ⟨m', hm, i + 1, H', (I'.unpinned (pins := [])).weak (by rw [← hw8, wipe_length]) (fun j v e => ?_), T.keep _ _ _ st7 fun b hb o e => (pin' b hb o e).1, fun b hb => ?_, w'⟩
        · rw [← hw8] at e
          exact (wipe_some e).1
        · obtain ⟨o, e, _⟩ := T.obj _ _ st7 b hb
          exact (pin' b hb o e).2
      cases b with
      | false =>
        simp only [Bool.false_eq_true, if_false] at q9 ⊢
        exact fin I9 q9
      | true =>
        simp only [if_true] at q9 ⊢
        refine thn (pe.run _ s9 σ8 H9 _ I9 q9) fun z s10 ⟨yv, H10, I10, r10, acc, hD10, hz10, nx⟩ => ?_
        exact app_ok (X := blkX X s3 H3 scope ce fp xe) I10 hD10 hz10 r10 fun s11 I11 => fin I11 nx
  exact codeAny_compStart_list loop (T.self X.A 0 _ _ _ st4 loop)
/-- name = [..] on one line, the name a local -/
theorem ps_setLcX {W : WX} {E : XK} {i : Nat} {y : Str} {py : Pos} {elt tg iter : Expr} {ifs : List Expr} {scope : Scope} {own : List (Str × Nat)} {pos spos : Pos} {wi : TI} {g : TG} {tt : TT} {te : TE} (hc : X.calm = true) (hN : X.N.Nodup)
    (hst : X.stack = X.env :: X.outer) (hf : X.env.frame = some X.env.locals) (tk : Takes X W) (hW : ∀ cls d σ H, E cls d H → W cls d σ H)
    (hy : X.N[i]? = some y) (hyl : X.env.scope.names.lookup y = some .local)
    (hsw : swapsWith (.ListComp elt [⟨tg, iter, ifs, 0⟩] scope pos) (some (.Name y py)) spos.line X.env = pure true) (hi : PI X tg iter wi) (ok : BlkOk X.N X.env.scope scope own)
    (hg : ∀ (s : Shared) (H : Hp) (C : Addr) (cl : List (Str × Addr)) (fp : List Addr) (xe : Value → Shared → Prop), PG (blkX X s H scope (compEnvC scope cl C X.env) fp xe) tg g)
    (ht : ∀ (s : Shared) (H : Hp) (C : Addr) (cl : List (Str × Addr)) (fp : List Addr) (xe : Value → Shared → Prop), PTs (blkX X s H scope (compEnvC scope cl C X.env) fp xe) ifs tt)
    (he : ∀ (s : Shared) (H : Hp) (C : Addr) (cl : List (Str × Addr)) (fp : List Addr) (xe : Value → Shared → Prop), (∀ σ, PassesAt (L2.CX X.prog X.w) (blkX X s H scope (compEnvC scope cl C X.env) fp xe) σ E) → PE (blkX X s H scope (compEnvC scope cl C X.env) fp xe) elt te)
    (hs : ∀ x, foldedSetIterable iter X.env x = pure x := by intro _; rfl) :
    PS X (.Assign [.Name y py] (.ListComp elt [⟨tg, iter, ifs, 0⟩] scope pos) spos) (tAsg (tLc wi g tt te (own.map (·.2))) (gName i)) := by
  refine ⟨fun pins s σ H D I h => ?_⟩
  rw [exec_Assign_Name_used _ _ _ _ hsw]
  refine wpAny_bind (wpAny_standAt (wpAny_bind ?_))
  show wpAny _ X.A (do let _ ← comprehension (.ListComp elt [⟨tg, iter, ifs, 0⟩] scope pos) scope X.env (firstIterPos [⟨tg, iter, ifs, 0⟩] pos) (newList []) false (eval iter X.env) (some (assign (.Name y py) X.env))) _ _ s
  have h : tLc wi g tt te (own.map (·.2)) σ H (fun x H1 => gName i x σ H1 D.nx) := h
  refine wpAny_bind (thn (lcx_core (Qf := fun _ s' => SP X pins D .next s') hc hN hst hf tk hW I hi ok hg ht he hs h fun L ce s' m H' I' q hn f => ?_) fun _ s' hq => wpAny_pure (wpAny_pure hq))
  show wpAny _ _ (assign (.Name y py) X.env (.ref L)) _ _ _
  refine wpAny_assign_Name (store_ok2 (v := V.ref L) I' hN hy (.inl hyl) rfl (fun s2 I2 ⟨a, sb, ha⟩ => ?_) (.inr hyl))
  obtain ⟨f0, f1, f2, f3, f4, f5⟩ := f
  have haC : ce.locals ≠ a := by
    rcases ha with z | z
    · rw [z]; exact f1
    · exact fun e => f4 y a z e.symm
  refine ⟨m, hn.sameBut sb haC, fun h3 sb3 => ?_⟩
  exact ⟨_, H', I2.turned (t' := s2.toks) (fun b o hb e => (sb3.2 b hb).trans e) f0 f1 f3 f4 f5, q⟩
end Sg
set_option Elab.async false
set_option linter.all false
set_option maxRecDepth 100000
set_option maxHeartbeats 4000000
namespace Sg
open PySem PySem.Spec PyProof.Rows L2
/-! ## repr of rows with numbers of more digits -/
/-- what may be shown, its numbers up to 700 digits -/
structure GoodW (d : PyData) : Prop where
  sh : d.showable = true
  dp : d.depth ≤ 40
  lv : d.leavesShort 700 = true
  bk : d.bulk ≤ 1000
theorem GoodW.short {d : PyData} (h : GoodW d) : d.shown.length ≤ sizeLine := by
  have h1 := PyData.shown_le_bulk 700 (by decide) d h.lv
  have h2 := h.bk
  have h4 : sizeLine = 16777216 := sizeLine_eq
  omega
section
variable {X : Cx}
/-- repr of a tuple or a list without dicts -/
theorem call_reprW {j : Nat} (hgd : X.A.guards = some []) (hr : Room j X.A) :
    CallR X (.builtin "repr") (fun xs H Q => ∃ a d, xs = [.ref a] ∧ Dp X.K H (.ref a) d ∧ GoodW d ∧ Q (.str d.shown) H) := by
  intro pins s σ H xs us Q I r h
  obtain ⟨a, d, rfl, hd, hg, q⟩ := h
  obtain ⟨u, rfl, rx⟩ := vals1 r
  have hu := hr.units
  have hdp := hg.dp
  cases rx
  obtain ⟨as, rd⟩ := Dp.reads I _ _ _ hd rfl
  exact repr_of_reads' (h₀ := s.heap) rd hg.sh (fun z => by rw [Dp.noDict hd] at z; exact nomatch z) hgd (by omega) (fun _ _ z => z) (fun h' u tk hk => ⟨.str d.shown, H, I.kept hk, ⟨u, rfl⟩, q⟩) hg.short
end
end Sg
set_option Elab.async false
set_option linter.all false
set_option maxRecDepth 100000
set_option maxHeartbeats 4000000
namespace Sg
open PySem PySem.Spec PyProof.Rows L2
/-! the places of the text -/
def topS (i : Nat) : Stmt := PySem.Challenge.pw_startgaps_k62_texts_by_hand.main.body.getD i (.Pass ⟨0, 0, 0, 0⟩)
abbrev s_is_int : Stmt := topS 32
theorem sc_is_int : FnScope ["thing"] ["thing"] (defScope s_is_int) := ⟨rfl, rfl, rfl, by decide +kernel, rfl, by decide +kernel, by decide +kernel⟩
abbrev s_is_between : Stmt := topS 33
theorem sc_is_between : FnScope ["thing", "least", "most"] ["thing", "least", "most"] (defScope s_is_between) := ⟨rfl, rfl, rfl, by decide +kernel, rfl, by decide +kernel, by decide +kernel⟩
abbrev s_is_work : Stmt := topS 38
theorem sc_is_work : FnScope ["thing", "item"] ["thing"] (defScope s_is_work) := ⟨rfl, rfl, rfl, by decide +kernel, rfl, by decide +kernel, by decide +kernel⟩
abbrev s_bars : Stmt := topS 39
theorem sc_bars : FnScope ["one", "other", "distance"] ["one", "other"] (defScope s_bars) := ⟨rfl, rfl, rfl, by decide +kernel, rfl, by decide +kernel, by decide +kernel⟩
abbrev s_require_work : Stmt := topS 40
theorem sc_require_work : FnScope ["thing"] ["thing"] (defScope s_require_work) := ⟨rfl, rfl, rfl, by decide +kernel, rfl, by decide +kernel, by decide +kernel⟩
abbrev s_clashes_behind : Stmt := topS 41
theorem sc_clashes_behind : FnScope ["one", "other", "distance", "here", "there"] ["one", "other", "distance"] (defScope s_clashes_behind) := ⟨rfl, rfl, rfl, by decide +kernel, rfl, by decide +kernel, by decide +kernel⟩
abbrev s_is_kind : Stmt := topS 44
theorem sc_is_kind : FnScope ["line", "thing"] ["line", "thing"] (defScope s_is_kind) := ⟨rfl, rfl, rfl, by decide +kernel, rfl, by decide +kernel, by decide +kernel⟩
abbrev s_require_kind : Stmt := topS 45
theorem sc_require_kind : FnScope ["line", "thing"] ["line", "thing"] (defScope s_require_kind) := ⟨rfl, rfl, rfl, by decide +kernel, rfl, by decide +kernel, by decide +kernel⟩
abbrev s_bars_of_all : Stmt := topS 46
theorem sc_bars_of_all : FnScope ["works", "other", "one"] ["works"] (defScope s_bars_of_all) := ⟨rfl, rfl, rfl, by decide +kernel, rfl, by decide +kernel, by decide +kernel⟩
abbrev s_Line_init : Stmt := inClass (topS 47) 0
theorem sc_Line_init : FnScope ["self", "works", "work", "row", "pair", "bar"] ["self", "works"] (defScope s_Line_init) := ⟨rfl, rfl, rfl, by decide +kernel, rfl, by decide +kernel, by decide +kernel⟩
abbrev s_Line_works : Stmt := inClass (topS 47) 1
theorem sc_Line_works : FnScope ["self"] ["self"] (defScope s_Line_works) := ⟨rfl, rfl, rfl, by decide +kernel, rfl, by decide +kernel, by decide +kernel⟩
abbrev s_Line_len : Stmt := inClass (topS 47) 3
theorem sc_Line_len : FnScope ["self"] ["self"] (defScope s_Line_len) := ⟨rfl, rfl, rfl, by decide +kernel, rfl, by decide +kernel, by decide +kernel⟩
abbrev s_Line_getitem : Stmt := inClass (topS 47) 4
theorem sc_Line_getitem : FnScope ["self", "at"] ["self", "at"] (defScope s_Line_getitem) := ⟨rfl, rfl, rfl, by decide +kernel, rfl, by decide +kernel, by decide +kernel⟩
abbrev s_Line_call : Stmt := inClass (topS 47) 6
theorem sc_Line_call : FnScope ["self", "one", "other"] ["self", "one", "other"] (defScope s_Line_call) := ⟨rfl, rfl, rfl, by decide +kernel, rfl, by decide +kernel, by decide +kernel⟩
abbrev s_Line_add : Stmt := inClass (topS 47) 7
theorem sc_Line_add : FnScope ["self", "other", "works"] ["self", "other"] (defScope s_Line_add) := ⟨rfl, rfl, rfl, by decide +kernel, rfl, by decide +kernel, by decide +kernel⟩
abbrev s_Line_sub : Stmt := inClass (topS 47) 9
theorem sc_Line_sub : FnScope ["self", "other", "works"] ["self", "other"] (defScope s_Line_sub) := ⟨rfl, rfl, rfl, by decide +kernel, rfl, by decide +kernel, by decide +kernel⟩
abbrev s_Line_neg : Stmt := inClass (topS 47) 10
theorem sc_Line_neg : FnScope ["self", "works", "work"] ["self"] (defScope s_Line_neg) := ⟨rfl, rfl, rfl, by decide +kernel, rfl, by decide +kernel, by decide +kernel⟩
abbrev s_Line_eq : Stmt := inClass (topS 47) 11
theorem sc_Line_eq : FnScope ["self", "other"] ["self", "other"] (defScope s_Line_eq) := ⟨rfl, rfl, rfl, by decide +kernel, rfl, by decide +kernel, by decide +kernel⟩
abbrev s_Line_repr : Stmt := inClass (topS 47) 12
theorem sc_Line_repr : FnScope ["self"] ["self"] (defScope s_Line_repr) := ⟨rfl, rfl, rfl, by decide +kernel, rfl, by decide +kernel, by decide +kernel⟩
abbrev s_require_line : Stmt := topS 48
theorem sc_require_line : FnScope ["thing"] ["thing"] (defScope s_require_line) := ⟨rfl, rfl, rfl, by decide +kernel, rfl, by decide +kernel, by decide +kernel⟩
abbrev s_is_plan : Stmt := topS 51
theorem sc_is_plan : FnScope ["line", "thing", "least", "pair"] ["line", "thing"] (defScope s_is_plan) := ⟨rfl, rfl, rfl, by decide +kernel, rfl, by decide +kernel, by decide +kernel⟩
abbrev s_require_plan : Stmt := topS 52
theorem sc_require_plan : FnScope ["line", "thing"] ["line", "thing"] (defScope s_require_plan) := ⟨rfl, rfl, rfl, by decide +kernel, rfl, by decide +kernel, by decide +kernel⟩
abbrev s_is_start : Stmt := topS 53
theorem sc_is_start : FnScope ["line", "thing", "least"] ["line", "thing", "least"] (defScope s_is_start) := ⟨rfl, rfl, rfl, by decide +kernel, rfl, by decide +kernel, by decide +kernel⟩
abbrev s_is_lap : Stmt := topS 56
theorem sc_is_lap : FnScope ["line", "thing", "item"] ["line", "thing"] (defScope s_is_lap) := ⟨rfl, rfl, rfl, by decide +kernel, rfl, by decide +kernel, by decide +kernel⟩
abbrev s_require_lap : Stmt := topS 57
theorem sc_require_lap : FnScope ["line", "thing"] ["line", "thing"] (defScope s_require_lap) := ⟨rfl, rfl, rfl, by decide +kernel, rfl, by decide +kernel, by decide +kernel⟩
abbrev s_work_text : Stmt := topS 61
theorem sc_work_text : FnScope ["work"] ["work"] (defScope s_work_text) := ⟨rfl, rfl, rfl, by decide +kernel, rfl, by decide +kernel, by decide +kernel⟩
abbrev s_lap_text : Stmt := topS 62
theorem sc_lap_text : FnScope ["line", "lap"] ["line", "lap"] (defScope s_lap_text) := ⟨rfl, rfl, rfl, by decide +kernel, rfl, by decide +kernel, by decide +kernel⟩
abbrev s_line_text : Stmt := topS 63
theorem sc_line_text : FnScope ["line", "work"] ["line"] (defScope s_line_text) := ⟨rfl, rfl, rfl, by decide +kernel, rfl, by decide +kernel, by decide +kernel⟩
abbrev s_plan_text : Stmt := topS 64
theorem sc_plan_text : FnScope ["line", "plan", "tick", "kind"] ["line", "plan"] (defScope s_plan_text) := ⟨rfl, rfl, rfl, by decide +kernel, rfl, by decide +kernel, by decide +kernel⟩
abbrev s_read_work : Stmt := topS 65
theorem sc_read_work : FnScope ["text"] ["text"] (defScope s_read_work) := ⟨rfl, rfl, rfl, by decide +kernel, rfl, by decide +kernel, by decide +kernel⟩
abbrev s_read_lap : Stmt := topS 66
theorem sc_read_lap : FnScope ["text", "lap"] ["text"] (defScope s_read_lap) := ⟨rfl, rfl, rfl, by decide +kernel, rfl, by decide +kernel, by decide +kernel⟩
abbrev s_read_line : Stmt := topS 67
theorem sc_read_line : FnScope ["text", "rows", "works", "row"] ["text"] (defScope s_read_line) := ⟨rfl, rfl, rfl, by decide +kernel, rfl, by decide +kernel, by decide +kernel⟩
abbrev s_read_plan : Stmt := topS 68
theorem sc_read_plan : FnScope ["text", "plan", "part"] ["text"] (defScope s_read_plan) := ⟨rfl, rfl, rfl, by decide +kernel, rfl, by decide +kernel, by decide +kernel⟩
abbrev s_require_text : Stmt := topS 69
theorem sc_require_text : FnScope ["thing"] ["thing"] (defScope s_require_text) := ⟨rfl, rfl, rfl, by decide +kernel, rfl, by decide +kernel, by decide +kernel⟩
abbrev s_items_text : Stmt := topS 70
theorem sc_items_text : FnScope ["items", "item"] ["items"] (defScope s_items_text) := ⟨rfl, rfl, rfl, by decide +kernel, rfl, by decide +kernel, by decide +kernel⟩
abbrev s_greatest_line : Stmt := topS 71
theorem sc_greatest_line : FnScope ["works"] [] (defScope s_greatest_line) := ⟨rfl, rfl, rfl, by decide +kernel, rfl, by decide +kernel, by decide +kernel⟩
abbrev s_read_work_in : Stmt := topS 72
theorem sc_read_work_in : FnScope ["text", "work"] ["text"] (defScope s_read_work_in) := ⟨rfl, rfl, rfl, by decide +kernel, rfl, by decide +kernel, by decide +kernel⟩
abbrev s_read_items : Stmt := topS 73
theorem sc_read_items : FnScope ["text", "part"] ["text"] (defScope s_read_items) := ⟨rfl, rfl, rfl, by decide +kernel, rfl, by decide +kernel, by decide +kernel⟩
abbrev s_read_start : Stmt := topS 74
theorem sc_read_start : FnScope ["text", "part"] ["text"] (defScope s_read_start) := ⟨rfl, rfl, rfl, by decide +kernel, rfl, by decide +kernel, by decide +kernel⟩
abbrev s_read_number : Stmt := topS 75
theorem sc_read_number : FnScope ["text", "sign"] ["text"] (defScope s_read_number) := ⟨rfl, rfl, rfl, by decide +kernel, rfl, by decide +kernel, by decide +kernel⟩
abbrev s_l_cell : Stmt := topS 77
theorem sc_l_cell : FnScope ["_law_script", "_law_k"] ["_law_script", "_law_k"] (defScope s_l_cell) := ⟨rfl, rfl, rfl, by decide +kernel, rfl, by decide +kernel, by decide +kernel⟩
abbrev s_l_pen : Stmt := topS 78
theorem sc_l_pen : FnScope ["_law_cell_here"] ["_law_cell_here"] (defScope s_l_pen) := ⟨rfl, rfl, rfl, by decide +kernel, rfl, by decide +kernel, by decide +kernel⟩
abbrev s_l_draw : Stmt := topS 79
theorem sc_l_draw : FnScope ["_law_pen_here", "_law_many", "_law_found", "_law_stirred"] ["_law_pen_here", "_law_many"] (defScope s_l_draw) := ⟨rfl, rfl, rfl, by decide +kernel, rfl, by decide +kernel, by decide +kernel⟩
abbrev s_l_mixed : Stmt := topS 80
theorem sc_l_mixed : FnScope ["_law_pen_here", "_law_values", "_law_left", "_law_found", "_law_turn"] ["_law_pen_here", "_law_values"] (defScope s_l_mixed) := ⟨rfl, rfl, rfl, by decide +kernel, rfl, by decide +kernel, by decide +kernel⟩
abbrev s_l_same : Stmt := topS 81
theorem sc_l_same : FnScope ["_law_actual", "_law_due"] ["_law_actual", "_law_due"] (defScope s_l_same) := ⟨rfl, rfl, rfl, by decide +kernel, rfl, by decide +kernel, by decide +kernel⟩
abbrev s_l_word : Stmt := topS 82
theorem sc_l_word : FnScope ["_law_e", "_law_marks", "_law_far", "_law_words"] ["_law_e"] (defScope s_l_word) := ⟨rfl, rfl, rfl, by decide +kernel, rfl, by decide +kernel, by decide +kernel⟩
abbrev s_l_said : Stmt := topS 83
theorem sc_l_said : FnScope ["_law_call", "_law_e"] ["_law_call"] (defScope s_l_said) := ⟨rfl, rfl, rfl, by decide +kernel, rfl, by decide +kernel, by decide +kernel⟩
abbrev s_l_right : Stmt := topS 84
theorem sc_l_right : FnScope ["_law_a", "_law_b", "_law_one", "_law_other", "_law_line", "_law_told", "_law_found"] ["_law_a", "_law_b"] (defScope s_l_right) := ⟨rfl, rfl, rfl, by decide +kernel, rfl, by decide +kernel, by decide +kernel⟩
abbrev s_l_none : Stmt := topS 85
theorem sc_l_none : FnScope ["_law_a", "_law_b", "_law_one", "_law_other", "_law_works", "_law_text", "_law_laps", "_law_lines", "_law_plans"] ["_law_a", "_law_b"] (defScope s_l_none) := ⟨rfl, rfl, rfl, by decide +kernel, rfl, by decide +kernel, by decide +kernel⟩
abbrev s_law : Stmt := topS 86
theorem sc_law : FnScope ["_law_script", "_law_k", "_law_pen_here", "_law_a", "_law_b", "_law_told"] ["_law_script"] (defScope s_law) := ⟨rfl, rfl, rfl, by decide +kernel, rfl, by decide +kernel, by decide +kernel⟩
end Sg
set_option Elab.async false
set_option linter.all false
set_option maxRecDepth 100000
set_option maxHeartbeats 4000000
namespace Sg
open PySem PySem.Spec PyProof.Rows L2 StX
section
variable {P : Program} {w : World} {K : PySem.W.Frag} {mg : Str → Option Value} {base : Heap}
def spIsInt : Sp := fun vs H Q _ => ∃ i : Int, vs = [.int i] ∧ Q (.bl true) H
theorem ok_is_int {f : Addr} {fd : FuncData} {k : Nat} (F : Fun K "is_int" "is_int" s_is_int f fd) (m1 : mg "isinstance" = none) (m2 : mg "int" = none) (m3 : mg "bool" = none) :
    FnOk P w K mg base CX0 (k + 1) f fd ["thing"] spIsInt := by
  refine F.ok sc_is_int (fun vs H Q E h => ?_) (fun cdv A outer s H vs Q E hr h => ?_)
  · obtain ⟨i, rfl, _⟩ := h; rfl
  · obtain ⟨i, rfl, q⟩ := h
    refine ⟨_, pss_one (ps_ret (pe_and
      (pe_callB call_isi (by rfl) m1 (by decide +kernel) (pa_cons (pv 0) (pa_cons (pe_bltn (v := .ty "int") (by rfl) m2 (by decide +kernel) rfl) pa_nil)))
      (pe_one (pe_not (pe_callB call_isi (by rfl) m1 (by decide +kernel) (pa_cons (pv 0) (pa_cons (pe_bltn (v := .ty "bool") (by rfl) m3 (by decide +kernel) rfl) pa_nil))))))), ?_⟩
    refine ⟨.int i, rfl, .int i, .ty "int", _, _, true, rfl, .ty _, .base (.int i), kit_ty (by decide +kernel), true, rfl, iteT ?_⟩
    exact ⟨.int i, rfl, .int i, .ty "bool", _, _, false, rfl, .ty _, .base (.int i), kit_ty (by decide +kernel), false, rfl, q⟩
def spIsBetween : Sp := fun vs H Q _ => ∃ i l m : Int, vs = [.int i, .int l, .int m] ∧ Q (.bl (decide (l ≤ i) && decide (i ≤ m))) H
theorem ok_is_between {f f1 : Addr} {fd fd1 : FuncData} {k : Nat} (F : Fun K "is_between" "is_between" s_is_between f fd)
    (G1 : FnOk P w K mg base CX0 k f1 fd1 ["thing"] spIsInt) (kp1 : PySem.W.keepIn K (.ref f1) = true) (b1 : Binds K fd1 ["thing"] []) (g1 : mg "is_int" = some (.ref f1)) :
    FnOk P w K mg base CX0 (k + 1) f fd ["thing", "least", "most"] spIsBetween := by
  refine F.ok sc_is_between (fun vs H Q E h => ?_) (fun cdv A outer s H vs Q E hr h => ?_)
  · obtain ⟨i, l, m, rfl, _⟩ := h; rfl
  · obtain ⟨i, l, m, rfl, q⟩ := h
    refine ⟨_, pss_one (ps_ret (pe_and (pe_call G1 hr (by rfl) g1 kp1 b1 .nil pass0 (pa_cons (pv 0) pa_nil)) (pe_one (pe_chain op_le op_le (pv 1) (pv 0) (pv 2))))), ?_⟩
    refine ⟨.int i, rfl, i, rfl, true, rfl, iteT ?_⟩
    refine ⟨.int l, rfl, .int i, rfl, l, i, rfl, rfl, decide (l ≤ i), rfl, ?_⟩
    by_cases h1 : l ≤ i
    · rw [decide_eq_true h1] at q ⊢
      exact iteT ⟨.int m, rfl, i, m, rfl, rfl, q⟩
    · rw [decide_eq_false h1] at q ⊢
      exact iteF q
/-! ### is_int, is_between: of any data -/
/-! ### the script's cells, the pen -/
def spCell (K : PySem.W.Frag) : Sp := fun vs H Q _ => ∃ (a : Addr) (ns : List Int) (k : Nat), vs = [.ref a, .int k] ∧ SqL K H a (ns.map V.int) ∧ ∀ r : Int, Q (.int r) H
theorem ok_l_cell {f : Addr} {fd : FuncData} {k : Nat} (F : Fun K "_law_cell" "_law_cell" s_l_cell f fd) (m1 : mg "len" = none) :
    FnOk P w K mg base CX0 (k + 1) f fd ["_law_script", "_law_k"] (spCell K) := by
  refine F.ok sc_l_cell (fun vs H Q E h => ?_) (fun cdv A outer s H vs Q E hr h => ?_)
  · obtain ⟨a, ns, j, rfl, _⟩ := h; rfl
  · obtain ⟨a, ns, j, rfl, hS, q⟩ := h
    refine ⟨_, pss_one (ps_ret (pe_ifExp (pt_cmpR op_lt (pv 1) (pe_callB call_len_seq (by rfl) m1 PySem.boot_len (pa_cons (pv 0) pa_nil)) (nomark _))
      (pe_ix ix_list (pv 0) (pv 1) (fun _ _ => rfl)) pe_int)), ?_⟩
    refine ⟨.int j, rfl, .ref a, rfl, a, ns.map V.int, rfl, .inl hS, _, _, rfl, rfl, _, rfl, ite2 (fun e => ?_) (fun e => ?_)⟩
    · have e1 : (j : Int) < ((ns.map V.int).length : Nat) := of_decide_eq_true e
      have e2 : j < ns.length := by rw [List.length_map] at e1; omega
      refine ⟨.ref a, rfl, .int j, rfl, a, ns.map V.int, (j : Int), .int ns[j], rfl, rfl, hS, atI_nat ?_, q _⟩
      rw [List.getElem?_map, List.getElem?_eq_getElem e2]; rfl
    · exact q 0
def spPen : Sp := fun vs H Q _ => ∃ c : Int, vs = [.int c] ∧ ∀ H' p, H p = none → Same H H' → PenAt H' p → Q (.ref p) H'
theorem ok_l_pen {f : Addr} {fd : FuncData} {k : Nat} (F : Fun K "_law_pen" "_law_pen" s_l_pen f fd) (m1 : mg "max" = none) :
    FnOk P w K mg base CX0 (k + 1) f fd ["_law_cell_here"] spPen := by
  refine F.ok sc_l_pen (fun vs H Q E h => ?_) (fun cdv A outer s H vs Q E hr h => ?_)
  · obtain ⟨c, rfl, _⟩ := h; rfl
  · obtain ⟨c, rfl, q⟩ := h
    refine ⟨_, pss_one (ps_ret (pe_lst (pa_cons (pe_callB (call_max2 rfl) (by rfl) m1 (by decide +kernel) (pa_cons pe_int (pa_cons (pe_op op_sub (pv 0) (pe_op op_pow pe_int pe_int)) pa_nil)))
      (pa_cons (pe_op op_add (pe_op op_mod (pv 0) pe_int) pe_int) (pa_cons pe_int pa_nil))))), ?_⟩
    refine ⟨.int c, rfl, 10, 18, rfl, rfl, (by show (0 : Int) ≤ 18 ∧ (18 : Int) ≤ 1000000 ∧ _; decide), c, _, rfl, rfl, _, _, rfl, ?_⟩
    refine ⟨.int c, rfl, c, 2147483629, rfl, rfl, (by show (0 : Int) < 2147483629; decide), _, _, rfl, rfl, ?_⟩
    refine ⟨by show 3 ≤ sizeLine; decide, fun p hp => q _ p hp (same_new hp) ⟨_, _, _, upd_same, ?_⟩⟩
    have h1 := Int.emod_nonneg c (show (2147483629 : Int) ≠ 0 by decide)
    have h2 := Int.emod_lt_of_pos c (show (0 : Int) < 2147483629 by decide)
    constructor <;> omega
/-! ### a draw -/
def spDraw : Sp := fun vs H Q _ => ∃ (p : Addr) (m : Int), vs = [.ref p, .int m] ∧ PenAt H p ∧ 0 < m ∧ m < 1000000 ∧
  ∀ H' (r : Int), 0 ≤ r → r < m → PenAt H' p → But p H H' → Q (.int r) H'
theorem ok_l_draw {f : Addr} {fd : FuncData} {k : Nat} (F : Fun K "_law_draw" "_law_draw" s_l_draw f fd) :
    FnOk P w K mg base CX0 (k + 1) f fd ["_law_pen_here", "_law_many"] spDraw := by
  refine F.ok sc_l_draw (fun vs H Q E h => ?_) (fun cdv A outer s H vs Q E hr h => ?_)
  · obtain ⟨p, m, rfl, _⟩ := h; rfl
  · obtain ⟨p, m, rfl, ⟨a, b, c, hp, hb0, hb1⟩, hm0, hm1, q⟩ := h
    refine ⟨_, pss_cons (ps_if (pt_cmpR op_gt (pe_ix ix_list (pv 0) pe_int (fun _ _ => rfl)) pe_int (nomark _))
        (pss_cons (ps_set (i := 2) sc_l_draw.nd rfl (.inl rfl) (pe_op op_mod (pe_ix ix_list (pv 0) pe_int (fun _ _ => rfl)) (pv 1)))
        (pss_cons (ps_asg (pe_op op_fdiv (pe_ix ix_list (pv 0) pe_int (fun _ _ => rfl)) (pv 1)) (pg_sub (pv 0) pe_int set_list))
        (pss_one (ps_ret (pv 2))))) pss_nil)
      (pss_cons (ps_asg (pe_op op_add (pe_ix ix_list (pv 0) pe_int (fun _ _ => rfl)) pe_int) (pg_sub (pv 0) pe_int set_list))
      (pss_cons (ps_asg (pe_op op_mod (pe_op op_add (pe_op op_add (pe_op op_mul (pe_ix ix_list (pv 0) pe_int (fun _ _ => rfl)) pe_int)
            (pe_op op_mul pe_int (pe_ix ix_list (pv 0) pe_int (fun _ _ => rfl)))) pe_int) pe_int) (pg_sub (pv 0) pe_int set_list))
      (pss_cons (ps_set (i := 3) sc_l_draw.nd rfl (.inl rfl) (pe_op op_mod (pe_op op_add (pe_op op_add (pe_op op_mul (pe_ix ix_list (pv 0) pe_int (fun _ _ => rfl)) (pe_ix ix_list (pv 0) pe_int (fun _ _ => rfl)))
            (pe_op op_mul pe_int (pe_ix ix_list (pv 0) pe_int (fun _ _ => rfl)))) pe_int) pe_int))
      (pss_cons (ps_set (i := 3) sc_l_draw.nd rfl (.inl rfl) (pe_op op_mod (pe_op op_add (pe_op op_mul (pv 3) (pv 3)) (pe_op op_mul pe_int (pv 3))) pe_int))
      (pss_one (ps_ret (pe_op op_mod (pe_op op_fdiv (pv 3) pe_int) (pv 1)))))))), ?_⟩
    refine ⟨.ref p, rfl, p, _, 0, .int a, rfl, rfl, .of hp, atI0, a, 0, rfl, rfl, _, rfl, ite2 (fun e => ?_) (fun e => ?_)⟩
    · have ha : 0 < a := of_decide_eq_true e
      refine ⟨.ref p, rfl, p, _, 0, .int a, rfl, rfl, .of hp, atI0, .int m, rfl, a, m, rfl, rfl, hm0, ?_⟩
      refine ⟨.ref p, rfl, p, _, 0, .int a, rfl, rfl, .of hp, atI0, .int m, rfl, a, m, rfl, rfl, ⟨hm0, (by omega)⟩, ?_⟩
      refine ⟨.ref p, rfl, p, _, 0, 0, rfl, rfl, hp, rfl, ?_⟩
      refine ⟨.int (a % m), rfl, q _ _ (Int.emod_nonneg a (by omega)) (Int.emod_lt_of_pos a hm0) ⟨a / m, b, c, upd_same, hb0, hb1⟩ But.upd⟩
    · refine ⟨.ref p, rfl, p, _, 2, .int c, rfl, rfl, .of hp, atI2, c, 1, rfl, rfl, ?_⟩
      refine ⟨.ref p, rfl, p, _, 2, 2, rfl, rfl, hp, rfl, ?_⟩
      have hp1 : (upd H p (.lst [.int a, .int b, .int (c + 1)])) p = some (.lst [.int a, .int b, .int (c + 1)]) := upd_same
      refine ⟨.ref p, rfl, p, _, 1, .int b, rfl, rfl, .of hp1, atI1, b, 48271, rfl, rfl, .inl ⟨by omega, by omega⟩, ?_⟩
      refine ⟨.ref p, rfl, p, _, 2, .int (c + 1), rfl, rfl, .of hp1, atI2, 1009, c + 1, rfl, rfl, .inl (by decide), ?_⟩
      refine ⟨_, _, rfl, rfl, _, _, rfl, rfl, _, 2147483647, rfl, rfl, (by show (0 : Int) < 2147483647; decide), ?_⟩
      refine ⟨.ref p, rfl, p, _, 1, 1, rfl, rfl, hp1, rfl, ?_⟩
      dsimp only [List.set]
      generalize hb' : (b * 48271 + 1009 * (c + 1) + 7) % 2147483647 = b'
      have g1 : 0 ≤ b' := by rw [← hb']; exact Int.emod_nonneg _ (by decide)
      have g2 : b' < 2147483647 := by rw [← hb']; exact Int.emod_lt_of_pos _ (by decide)
      have hp2 : (upd (upd H p (.lst [.int a, .int b, .int (c + 1)])) p (.lst [.int a, .int b', .int (c + 1)])) p = some (.lst [.int a, .int b', .int (c + 1)]) := upd_same
      refine ⟨.ref p, rfl, p, _, 1, .int b', rfl, rfl, .of hp2, atI1, .ref p, rfl, p, _, 1, .int b', rfl, rfl, .of hp2, atI1, b', b', rfl, rfl, .inl ⟨by omega, by omega⟩, ?_⟩
      refine ⟨.ref p, rfl, p, _, 1, .int b', rfl, rfl, .of hp2, atI1, 69621, b', rfl, rfl, .inl (by decide), ?_⟩
      refine ⟨_, _, rfl, rfl, _, _, rfl, rfl, _, 2147483629, rfl, rfl, (by show (0 : Int) < 2147483629; decide), ?_⟩
      dsimp only
      generalize ht : (b' * b' + 69621 * b' + 11) % 2147483629 = t
      have t1 : 0 ≤ t := by rw [← ht]; exact Int.emod_nonneg _ (by decide)
      have t2 : t < 2147483629 := by rw [← ht]; exact Int.emod_lt_of_pos _ (by decide)
      refine ⟨.int t, rfl, .int t, rfl, t, t, rfl, rfl, .inl ⟨by omega, by omega⟩, .int t, rfl, 40014, t, rfl, rfl, .inl (by decide), _, _, rfl, rfl, _, 2147483587, rfl, rfl, (by show (0 : Int) < 2147483587; decide), ?_⟩
      refine ⟨_, rfl, _, 16, rfl, rfl, ⟨by decide, by decide⟩, .int m, rfl, _, m, rfl, rfl, hm0, ?_⟩
      refine q _ _ (Int.emod_nonneg _ (by omega)) (Int.emod_lt_of_pos _ hm0) ⟨a, b', c + 1, upd_same, by omega, by omega⟩ ?_
      exact But.upd.trans But.upd
end
end Sg
set_option Elab.async false
set_option linter.all false
set_option maxRecDepth 100000
set_option maxHeartbeats 4000000
namespace Sg
open PySem PySem.Spec PyProof.Rows L2
section
variable {P : Program} {w : World} {K : PySem.W.Frag} {mg : Str → Option Value} {base : Heap}
/-! ### is_work, of a work -/
def spIsWork (K : PySem.W.Frag) : Sp := fun vs H Q _ => ∃ (a : Addr) (ns : List Int), vs = [.ref a] ∧ SqT K H a (ns.map V.int) ∧ IsWork ns ∧ ∀ H', Same H H' → Q (.bl true) H'
theorem ok_is_work {f f1 : Addr} {fd fd1 : FuncData} {k : Nat} (F : Fun K "is_work" "is_work" s_is_work f fd) (N : Nums mg)
    (G1 : FnOk P w K mg base CX0 k f1 fd1 ["thing", "least", "most"] spIsBetween) (kp1 : PySem.W.keepIn K (.ref f1) = true) (b1 : Binds K fd1 ["thing", "least", "most"] []) (g1 : mg "is_between" = some (.ref f1))
    (m1 : mg "isinstance" = none) (m2 : mg "tuple" = none) (m3 : mg "len" = none) (m4 : mg "all" = none) :
    FnOk P w K mg base CX0 (k + 1) f fd ["thing"] (spIsWork K) := by
  obtain ⟨t1, n1⟩ := N.nowhere
  obtain ⟨t2, n2⟩ := N.stations
  obtain ⟨t3, n3⟩ := N.most
  refine F.ok sc_is_work (fun vs H Q E h => ?_) (fun cdv A outer s H vs Q E hr h => ?_)
  · obtain ⟨a, ns, rfl, _⟩ := h; rfl
  · obtain ⟨a, ns, rfl, hS, hw, q⟩ := h
    refine ⟨_, pss_cons (ps_if (PW.pt (pw_or (pt_not (pt_val (pe_callB call_isi (by rfl) m1 (by decide +kernel) (pa_cons (pv 0) (pa_cons (pe_bltn (v := .ty "tuple") (by rfl) m2 (by decide +kernel) rfl) pa_nil)))))
          (pw_or1 (pt_not (pt_chain op_le op_le pe_int (pe_callB call_len_seq (by rfl) m3 PySem.boot_len (pa_cons (pv 0) pa_nil)) (pe_glob (v := .int 60) (by rfl) n3 ⟨_, rfl⟩))))))
        (pss_one (ps_ret pe_bl)) pss_nil)
      (pss_cons (ps_if (pt_not (pt_val (pe_callB (cr_all rfl) (by rfl) m4 (by decide +kernel) (pa_cons
          (pe_lc (own := [("item", 1)]) (g := gName 1) (tt := tYes) rfl sc_is_work.nd (pi_tup (pv 0)) (blkOk_by (N := ["thing", "item"]) (sc := defScope s_is_work) (by decide +kernel))
            (fun _ _ _ _ _ => pg_name (i := 1) sc_is_work.nd rfl (Or.inl rfl)) (fun _ _ _ _ _ => pts_nil)
            (fun _ _ _ _ _ => pe_call G1 hr (by rfl) g1 kp1 b1 .nil pass0 (pa_cons (pv 1) (pa_cons (pe_glob (v := .int (-1)) (by rfl) n1 ⟨_, rfl⟩) (pa_cons (pe_op op_sub (pe_glob (v := .int 10) (by rfl) n2 ⟨_, rfl⟩) pe_int) pa_nil))))) pa_nil))))
        (pss_one (ps_ret pe_bl)) pss_nil)
      (pss_one (ps_ret (pe_and (pe_cmpR op_ne (pe_ix ix_tup (pv 0) pe_int (fun _ _ => rfl)) (pe_glob (v := .int (-1)) (by rfl) n1 ⟨_, rfl⟩) (nomark _))
        (pe_one (pe_cmpR op_ne (pe_ix ix_tup (pv 0) (pe_un un_neg pe_int) (fun _ _ => rfl)) (pe_glob (v := .int (-1)) (by rfl) n1 ⟨_, rfl⟩) (nomark _))))))), ?_⟩
    have l1 : ((ns.map V.int).length : Int) = ns.length := by rw [List.length_map]
    refine ⟨.ref a, rfl, .ref a, .ty "tuple", _, _, true, rfl, .ty _, tyT hS, kit_ty (by decide +kernel), true, rfl, iteF ?_⟩
    refine ⟨.ref a, rfl, a, ns.map V.int, rfl, .inr hS, 1, _, rfl, rfl, _, rfl, ?_⟩
    have c1 : decide ((1 : Int) ≤ ((ns.map V.int).length : Nat)) = true := decide_eq_true (by rw [List.length_map]; have := hw.pos; omega)
    rw [c1]
    refine iteT ⟨_, 60, rfl, rfl, _, rfl, ?_⟩
    have c2 : decide ((((ns.map V.int).length : Nat) : Int) ≤ 60) = true := decide_eq_true (by rw [List.length_map]; have := hw.most; omega)
    rw [c2]
    refine iteF ?_
    refine ⟨.ref a, rfl, a, rfl, ⟨_, hS⟩, fun D hD => ?_⟩
    refine lc_tup (xs := ns.map V.int) (fun i H' => Same H H' ∧ H' D = some (.lst ((((ns.take i).map inR)).map V.bl))) ⟨same_new hD, upd_same⟩ (fun i H' _ h => Same.tup h.1 hS) (fun i x H' hx h => ?_) (fun H' h => ?_)
    · rw [List.getElem?_map] at hx
      obtain ⟨z, hz, rfl⟩ := Option.map_eq_some_iff.mp hx
      have hl : i < ns.length := (List.getElem?_eq_some_iff.mp hz).1
      refine ⟨rfl, .int z, rfl, 10, 1, rfl, rfl, z, -1, _, rfl, ?_⟩
      refine ⟨_, h.2, ?_, fun b o e => ?_, ?_⟩
      · rw [List.length_map, List.length_map, List.length_take]
        have := hw.most
        exact small1000 (by omega)
      · rw [upd_ne (ne_of_none e hD)]
        exact h.1 _ _ e
      · rw [upd_same, List.take_add_one, hz, List.map_append, List.map_append]
        rfl
    · have hall : (((ns.take ns.length).map inR)).all id = true := by
        rw [List.take_length, List.all_map, List.all_eq_true]
        intro x hx
        have := hw.items x hx
        simp [inR, this.1, this.2]
      have h2 := h.2
      rw [List.length_map] at h2
      refine ⟨D, _, rfl, .of h2, true, congrArg V.bl hall, iteF ?_⟩
      have hS' : SqT K H' a (ns.map V.int) := Same.tup h.1 hS
      obtain ⟨x, hx⟩ : ∃ x, ns[0]? = some x := ⟨ns[0]'(hw.pos), List.getElem?_eq_getElem _⟩
      have hpos := hw.pos
      obtain ⟨y, hy⟩ : ∃ y, ns[ns.length - 1]? = some y := ⟨ns[ns.length - 1]'(by omega), List.getElem?_eq_getElem _⟩
      have gx : (ns.map V.int)[0]? = some (.int x) := by rw [List.getElem?_map, hx]; rfl
      have gy : atI (ns.map V.int) (-1) = some (.int y) := by
        have hne : ns ≠ [] := fun z => by rw [z] at hpos; exact absurd hpos (by decide)
        have e1 : ns = ns.dropLast ++ [y] := by
          have e2 : ns.getLast hne = y := by
            have := List.getLast_eq_getElem hne
            rw [this]
            exact (List.getElem?_eq_some_iff.mp hy).2
          rw [← e2, List.dropLast_concat_getLast]
        rw [e1, List.map_append]
        exact atI_last _ _
      refine ⟨.ref a, rfl, a, _, 0, .int x, rfl, rfl, hS', atI_nat (j := 0) gx, rfl, ?_⟩
      have d1 : decide (V.int x = V.int (-1)) = false := decide_eq_false fun z => hw.head x hx (V.int.inj z)
      rw [d1]
      refine ⟨true, rfl, iteT ?_⟩
      refine ⟨.ref a, rfl, 1, rfl, a, _, -1, .int y, rfl, rfl, hS', gy, rfl, ?_⟩
      have d2 : decide (V.int y = V.int (-1)) = false := decide_eq_false fun z => hw.last y hy (V.int.inj z)
      rw [d2]
      exact q H' h.1
def spReq (K : PySem.W.Frag) : Sp := fun vs H Q _ => ∃ (a : Addr) (ns : List Int), vs = [.ref a] ∧ SqT K H a (ns.map V.int) ∧ IsWork ns ∧ ∀ H', Same H H' → Q .non H'
theorem ok_require_work {f f1 : Addr} {fd fd1 : FuncData} {k : Nat} (F : Fun K "require_work" "require_work" s_require_work f fd)
    (G1 : FnOk P w K mg base CX0 k f1 fd1 ["thing"] (spIsWork K)) (kp1 : PySem.W.keepIn K (.ref f1) = true) (b1 : Binds K fd1 ["thing"] []) (g1 : mg "is_work" = some (.ref f1)) :
    FnOk P w K mg base CX0 (k + 1) f fd ["thing"] (spReq K) := by
  refine F.ok sc_require_work (fun vs H Q E h => ?_) (fun cdv A outer s H vs Q E hr h => ?_)
  · obtain ⟨a, ns, rfl, _⟩ := h; rfl
  · obtain ⟨a, ns, rfl, hS, hw, q⟩ := h
    refine ⟨_, pss_one (ps_if (pt_not (pt_val (pe_call G1 hr (by rfl) g1 kp1 b1 .nil pass0 (pa_cons (pv 0) pa_nil)))) (pss_one ps_never) pss_nil), ?_⟩
    exact ⟨.ref a, rfl, a, ns, rfl, hS, hw, fun H' sm => ⟨true, rfl, iteF (q H' sm)⟩⟩
/-! ### _clashes_behind -/
def spClash (K : PySem.W.Frag) : Sp := fun vs H Q _ => ∃ (a b : Addr) (one other : List Int) (d : Nat), vs = [.ref a, .ref b, .int d] ∧ SqT K H a (one.map V.int) ∧ SqT K H b (other.map V.int) ∧ one.length ≤ 60 ∧ 1 ≤ d ∧ d < one.length ∧
  ∀ H', Same H H' → Q (.bl (clashB one other d)) H'
theorem ok_clashes_behind {f : Addr} {fd : FuncData} {k : Nat} (F : Fun K "_clashes_behind" "_clashes_behind" s_clashes_behind f fd) (N : Nums mg) (m1 : mg "any" = none) (m2 : mg "zip" = none) :
    FnOk P w K mg base CX0 (k + 1) f fd ["one", "other", "distance"] (spClash K) := by
  obtain ⟨t1, n1⟩ := N.nowhere
  refine F.ok sc_clashes_behind (fun vs H Q E h => ?_) (fun cdv A outer s H vs Q E hr h => ?_)
  · obtain ⟨a, b, o1, o2, d, rfl, _⟩ := h; rfl
  · obtain ⟨a, b, one, other, d, rfl, hA, hB, hm, hd1, hd2, q⟩ := h
    refine ⟨_, pss_one (ps_ret (pe_callB (cr_any rfl) (by rfl) m1 (by decide +kernel) (pa_cons
      (pe_lc (own := [("here", 3), ("there", 4)]) (g := gTup K 2 (gCons (gName 3) (gCons (gName 4) gNil))) (tt := tYes) rfl sc_clashes_behind.nd (RZ.pi_zipA (by rfl) m2 (pa_cons (pe_slice sl_tup (pv 0) (po_some (pv 2)) po_none) (pa_cons (pv 1) pa_nil)))
        (blkOk_by (N := ["one", "other", "distance", "here", "there"]) (sc := defScope s_clashes_behind) (by decide +kernel))
        (fun _ _ _ _ _ => pg_tup rfl (pgs_cons (pg_name (i := 3) sc_clashes_behind.nd rfl (Or.inl rfl)) (pgs_cons (pg_name (i := 4) sc_clashes_behind.nd rfl (Or.inl rfl)) pgs_nil)))
        (fun _ _ _ _ _ => pts_nil)
        (fun _ _ _ _ _ => pe_and (pe_cmpR op_eq (pv 3) (pv 4) (nomark _)) (pe_one (pe_cmpR op_ne (pv 3) (pe_glob (v := .int (-1)) (by rfl) n1 ⟨_, rfl⟩) (nomark _))))) pa_nil))), ?_⟩
    have hcut : cutV (one.map V.int) (some (d : Int)) none = (one.drop d).map V.int := by rw [cut_from, List.map_drop]
    refine ⟨.ref a, rfl, .int d, rfl, d, rfl, a, _, rfl, hA, ?_, fun c nc => ?_⟩
    · rintro ⟨z, _⟩
      rw [HT.sIx_nat, List.length_map] at z
      omega
    rw [hcut]
    have s1 : Same H (upd H c (.tup ((one.drop d).map V.int))) := same_new nc
    refine ⟨.ref b, rfl, c, b, _, _, rfl, .inr ⟨.of upd_same, Same.tup s1 hB, fun D hD => ?_⟩⟩
    have s2 : Same (upd H c (.tup ((one.drop d).map V.int))) (upd (upd H c (.tup ((one.drop d).map V.int))) D (.lst [])) := same_new hD
    have hc0 : (upd H c (.tup ((one.drop d).map V.int))) c = some (.tup ((one.drop d).map V.int)) := upd_same
    refine lc_it (walk_zipT (xs := (one.drop d).map V.int) (ys := other.map V.int) (n := min (one.drop d).length other.length) (by rw [List.length_map, List.length_map]))
      (fun i H' => Same (upd H c (.tup ((one.drop d).map V.int))) H' ∧ H' D = some (.lst ((hitsTo one other d i).map V.bl))) ⟨s2, upd_same⟩
      (fun i H' _ h => ⟨.of (h.1 _ _ hc0), Same.tup (s1.trans h.1) hB⟩) (fun i x H' H'' hi h hY => ?_) (fun H' h => ?_)
    · obtain ⟨T, x1, x2, rfl, nT, rfl, f1, f2⟩ := hY
      dsimp only at f1 f2
      rw [List.getElem?_map] at f1 f2
      obtain ⟨z1, hz1, rfl⟩ := Option.map_eq_some_iff.mp f1
      obtain ⟨z2, hz2, rfl⟩ := Option.map_eq_some_iff.mp f2
      have nTD : D ≠ T := ne_of_none h.2 nT
      refine ⟨T, _, rfl, .of upd_same, rfl, _, _, rfl, _, _, rfl, rfl, rfl, ?_⟩
      have fin : ∀ bb : Bool, bb = (z1 == z2 && z1 != -1) → ∃ acc, (upd H' T (.tup [V.int z1, V.int z2])) D = some (.lst acc) ∧ acc.length < sizeLine ∧
          (Same (upd H c (.tup ((one.drop d).map V.int))) (upd (upd H' T (.tup [V.int z1, V.int z2])) D (.lst (acc ++ [V.bl bb]))) ∧ (upd (upd H' T (.tup [V.int z1, V.int z2])) D (.lst (acc ++ [V.bl bb]))) D = some (.lst ((hitsTo one other d (i + 1)).map V.bl))) := by
        rintro bb rfl
        refine ⟨_, by rw [upd_ne nTD]; exact h.2, ?_, fun y o e => ?_, ?_⟩
        · rw [List.length_map]
          have := hits_len one other d i
          exact small1000 (by rw [List.length_drop] at hi; omega)
        · rw [upd_ne (ne_of_none e hD)]
          exact same_new nT _ _ (h.1 _ _ e)
        · rw [upd_same, hits_succ hz1 hz2, List.map_append]
          rfl
      refine ⟨.int z1, rfl, .int z2, rfl, rfl, ?_⟩
      by_cases hz : z1 = z2
      · subst hz
        rw [decide_eq_true (rfl : V.int z1 = V.int z1)]
        refine ⟨true, rfl, iteT ⟨.int z1, rfl, rfl, ?_⟩⟩
        refine fin _ ?_
        by_cases hn : z1 = -1
        · subst hn; rfl
        · rw [decide_eq_false fun z => hn (V.int.inj z)]
          simp [hn]
      · rw [decide_eq_false fun z => hz (V.int.inj z)]
        refine ⟨false, rfl, iteF (fin _ ?_)⟩
        simp [hz]
    · refine ⟨D, _, rfl, .of h.2, ?_⟩
      rw [hits_any]
      exact q H' (s1.trans h.1)
/-! ### bars -/
def spBars (K : PySem.W.Frag) : Sp := fun vs H Q _ => ∃ (a b : Addr) (one other : List Int), vs = [.ref a, .ref b] ∧ SqT K H a (one.map V.int) ∧ SqT K H b (other.map V.int) ∧ IsWork one ∧ IsWork other ∧
  ∀ H' p, Same H H' → H p = none → H' p = some (.tup (nV (barsN one other))) → Q (.ref p) H'
theorem ok_bars {f f1 f2 : Addr} {fd fd1 fd2 : FuncData} {k : Nat} (F : Fun K "bars" "bars" s_bars f fd)
    (G1 : FnOk P w K mg base CX0 k f1 fd1 ["thing"] (spReq K)) (kp1 : PySem.W.keepIn K (.ref f1) = true) (b1 : Binds K fd1 ["thing"] []) (g1 : mg "require_work" = some (.ref f1))
    (G2 : FnOk P w K mg base CX0 k f2 fd2 ["one", "other", "distance"] (spClash K)) (kp2 : PySem.W.keepIn K (.ref f2) = true) (b2 : Binds K fd2 ["one", "other", "distance"] []) (g2 : mg "_clashes_behind" = some (.ref f2))
    (m1 : mg "tuple" = none) (m2 : mg "range" = none) (m3 : mg "len" = none) :
    FnOk P w K mg base CX0 (k + 1) f fd ["one", "other"] (spBars K) := by
  refine F.ok sc_bars (fun vs H Q E h => ?_) (fun cdv A outer s H vs Q E hr h => ?_)
  · obtain ⟨a, b, o1, o2, rfl, _⟩ := h; rfl
  · obtain ⟨a, b, one, other, rfl, hA, hB, w1, w2, q⟩ := h
    refine ⟨_, pss_cons (ps_expr (pe_call G1 hr (by rfl) g1 kp1 b1 .nil pass0 (pa_cons (pv 0) pa_nil))) (pss_cons (ps_expr (pe_call G1 hr (by rfl) g1 kp1 b1 .nil pass0 (pa_cons (pv 1) pa_nil)))
      (pss_one (ps_ret (pe_callTy call_tuple_of (by rfl) m1 (by decide +kernel) (pa_cons
        (pe_lc (own := [("distance", 2)]) (g := gName 2) rfl sc_bars.nd (pi_range2 (by rfl) m2 (pa_cons pe_int (pa_cons (pe_callB call_len_seq (by rfl) m3 PySem.boot_len (pa_cons (pv 0) pa_nil)) pa_nil)))
          (blkOk_by (N := ["one", "other", "distance"]) (sc := defScope s_bars) (by decide +kernel))
          (fun _ _ _ _ _ => pg_name (i := 2) sc_bars.nd rfl (Or.inl rfl))
          (fun _ _ _ _ _ => pts_one (pt_val (pe_call G2 hr (by rfl) g2 kp2 b2 .nil pass0 (pa_cons (pv 0) (pa_cons (pv 1) (pa_cons (pv 2) pa_nil))))))
          (fun _ _ _ _ _ => pv 2)) pa_nil))))), ?_⟩
    refine ⟨.ref a, rfl, a, one, rfl, hA, w1, fun H1 e1 => ?_⟩
    refine ⟨.ref b, rfl, b, other, rfl, Same.tup e1 hB, w2, fun H2 e2 => ?_⟩
    have e12 : Same H H2 := e1.trans e2
    have hA2 := Same.tup e12 hA
    have hB2 := Same.tup e12 hB
    refine ⟨.ref a, rfl, a, one.map V.int, rfl, .inr hA2, 1, _, rfl, ?_, fun D hD => ?_⟩
    · rw [List.length_map]
      have := w1.most
      omega
    have en : (((one.map V.int).length : Int) - 1).toNat = one.length - 1 := by rw [List.length_map]; omega
    rw [en]
    refine lc_range (lo := 1) (n := one.length - 1) (fun i H' => Same H2 H' ∧ H' D = some (.lst (nV (barsTo one other i)))) ⟨same_new hD, upd_same⟩ (fun i H' hi h => ?_) (fun H' h => ?_)
    · refine ⟨rfl, ?_⟩
      have ed : ((1 : Int) + (i : Int)) = ((1 + i : Nat) : Int) := by omega
      refine ⟨.ref a, rfl, .ref b, rfl, .int (1 + i), rfl, a, b, one, other, 1 + i, by rw [ed]; rfl, Same.tup h.1 hA2, Same.tup h.1 hB2, w1.most, by omega, by omega, fun H'' e3 => ?_⟩
      refine ⟨_, rfl, ?_⟩
      have hD3 := e3 _ _ h.2
      cases hc : clashB one other (1 + i) with
      | true =>
        refine iteT ⟨_, rfl, _, hD3, ?_, fun y o e => ?_, ?_⟩
        · rw [List.length_map]
          have := barsTo_len one other i
          have := w1.most
          exact small1000 (by omega)
        · rw [upd_ne (ne_of_none e hD)]
          exact e3 _ _ (h.1 _ _ e)
        · rw [upd_same, barsTo_yes hc]
      | false =>
        refine iteF ⟨h.1.trans e3, ?_⟩
        rw [barsTo_no hc]
        exact hD3
    · refine ⟨D, _, rfl, .inl ⟨.of h.2, fun l hl => ?_⟩⟩
      have e3 : Same H H' := e12.trans h.1
      exact q _ l (e3.trans (same_new hl)) (Same.free e3 hl) upd_same
end
end Sg
set_option Elab.async false
set_option linter.all false
set_option maxRecDepth 100000
set_option maxHeartbeats 4000000
namespace Sg
open PySem PySem.Spec PyProof.Rows L2
section
variable {P : Program} {w : World} {K : PySem.W.Frag} {mg : Str → Option Value} {base : Heap}
/-! ### len -/
def spLen (K : PySem.W.Frag) (C : Addr) : Sp := fun vs H Q _ => ∃ (a : Addr) (ws : List (List Int)), vs = [.ref a] ∧ LineAt K C H a ws ∧ Q (.int (ws.length : Nat)) H
theorem ok_len {f C : Addr} {fd : FuncData} {k : Nat} (F : Fun K "__len__" "Line.__len__" s_Line_len f fd) (T : LC K mg C) (m1 : mg "len" = none) :
    FnOk P w K mg base CX0 (k + 1) f fd ["self"] (spLen K C) := by
  refine F.ok sc_Line_len (fun vs H Q E h => ?_) (fun cdv A outer s H vs Q E hr h => ?_)
  · obtain ⟨a, ws, rfl, _⟩ := h; rfl
  · obtain ⟨a, ws, rfl, ⟨dx, t, b, r, h1, h2, h3, h4, h5⟩, q⟩ := h
    refine ⟨_, pss_one (ps_ret (pe_callB call_len_seq (by rfl) m1 PySem.boot_len (pa_cons (pe_fld (pv 0) rfl) pa_nil))), ?_⟩
    obtain ⟨t', xs, e, hS, hT⟩ := h2.toTup
    cases e
    refine ⟨.ref a, rfl, a, C, dx, _, _, rfl, h1, T.cl, T.nW, lf_works _ _ _, t, xs, rfl, .inr hS, ?_⟩
    have e := hT.len
    rw [List.length_map] at e
    rw [e]
    exact q
/-! ### is_kind -/
def spIsKind (K : PySem.W.Frag) (C : Addr) : Sp := fun vs H Q _ => ∃ (a : Addr) (ws : List (List Int)) (i : Int), vs = [.ref a, .int i] ∧ LineAt K C H a ws ∧ Q (.bl (decide (0 ≤ i) && decide (i ≤ (ws.length : Nat) - 1))) H
theorem ok_is_kind {f f1 f2 C : Addr} {fd fd1 fd2 : FuncData} {k : Nat} (F : Fun K "is_kind" "is_kind" s_is_kind f fd) (T : LC K mg C) (m1 : mg "len" = none)
    (G1 : FnOk P w K mg base CX0 k f1 fd1 ["thing", "least", "most"] spIsBetween) (kp1 : PySem.W.keepIn K (.ref f1) = true) (b1 : Binds K fd1 ["thing", "least", "most"] []) (g1 : mg "is_between" = some (.ref f1))
    (G2 : FnOk P w K mg base CX0 k f2 fd2 ["self"] (spLen K C)) (b2 : Binds K fd2 ["self"] []) (s2 : PySem.W.findIn K (.ref C) "__len__" = some (some (.ref f2))) (i2 : PySem.W.isFn K (.ref f2) = true) :
    FnOk P w K mg base CX0 (k + 2) f fd ["line", "thing"] (spIsKind K C) := by
  refine F.ok sc_is_kind (fun vs H Q E h => ?_) (fun cdv A outer s H vs Q E hr h => ?_)
  · obtain ⟨a, ws, i, rfl, _⟩ := h; rfl
  · obtain ⟨a, ws, i, rfl, hL, q⟩ := h
    refine ⟨_, pss_one (ps_ret (pe_call G1 (hr.mono (Nat.le_succ k)) (by rfl) g1 kp1 b1 .nil pass0 (pa_cons (pv 1) (pa_cons pe_int (pa_cons (pe_op op_sub (pe_callB (call_lenO G2 hr b2 s2 i2) (by rfl) m1 PySem.boot_len (pa_cons (pv 0) pa_nil)) pe_int) pa_nil))))), ?_⟩
    refine ⟨.int i, rfl, .ref a, rfl, a, rfl, hL.ins, a, ws, rfl, hL, ws.length, rfl, ?_, _, 1, rfl, rfl, i, 0, _, rfl, q⟩
    have := hL.good.few
    omega
def spReqKind (K : PySem.W.Frag) (C : Addr) : Sp := fun vs H Q _ => ∃ (a : Addr) (ws : List (List Int)) (i : Nat), vs = [.ref a, .int i] ∧ LineAt K C H a ws ∧ i < ws.length ∧ Q .non H
theorem ok_require_kind {f f1 C : Addr} {fd fd1 : FuncData} {k : Nat} (F : Fun K "require_kind" "require_kind" s_require_kind f fd)
    (G1 : FnOk P w K mg base CX0 k f1 fd1 ["line", "thing"] (spIsKind K C)) (kp1 : PySem.W.keepIn K (.ref f1) = true) (b1 : Binds K fd1 ["line", "thing"] []) (g1 : mg "is_kind" = some (.ref f1)) :
    FnOk P w K mg base CX0 (k + 1) f fd ["line", "thing"] (spReqKind K C) := by
  refine F.ok sc_require_kind (fun vs H Q E h => ?_) (fun cdv A outer s H vs Q E hr h => ?_)
  · obtain ⟨a, ws, i, rfl, _⟩ := h; rfl
  · obtain ⟨a, ws, i, rfl, hL, hi, q⟩ := h
    refine ⟨_, pss_one (ps_if (pt_not (pt_val (pe_call G1 hr (by rfl) g1 kp1 b1 .nil pass0 (pa_cons (pv 0) (pa_cons (pv 1) pa_nil))))) (pss_one ps_never) pss_nil), ?_⟩
    refine ⟨.ref a, rfl, .int i, rfl, a, ws, i, rfl, hL, ?_⟩
    rw [decide_eq_true (show (0 : Int) ≤ i by omega), decide_eq_true (show (i : Int) ≤ (ws.length : Nat) - 1 by omega)]
    exact ⟨true, rfl, iteF q⟩
/-! ### _bars_of_all -/
def spBarsAll (K : PySem.W.Frag) : Sp := fun vs H Q _ => ∃ (a : Addr) (ws : List (List Int)), vs = [.ref a] ∧ Tp K H (.ref a) (.tuple (tDs ws)) ∧ GoodL ws ∧
  ∀ H' p, Same H H' → Tp K H' (.ref p) (.tuple (barD ws)) → Q (.ref p) H'
theorem ok_bars_of_all {f f1 : Addr} {fd fd1 : FuncData} {k : Nat} (F : Fun K "_bars_of_all" "_bars_of_all" s_bars_of_all f fd) (m1 : mg "tuple" = none)
    (G1 : FnOk P w K mg base CX0 k f1 fd1 ["one", "other"] (spBars K)) (kp1 : PySem.W.keepIn K (.ref f1) = true) (b1 : Binds K fd1 ["one", "other"] []) (g1 : mg "bars" = some (.ref f1)) :
    FnOk P w K mg base CX0 (k + 1) f fd ["works"] (spBarsAll K) := by
  refine F.ok sc_bars_of_all (fun vs H Q E h => ?_) (fun cdv A outer s H vs Q E hr h => ?_)
  · obtain ⟨a, ws, rfl, _⟩ := h; rfl
  · obtain ⟨a, ws, rfl, hW, hg, q⟩ := h
    refine ⟨_, pss_one (ps_ret (pe_callTy call_tuple_of (by rfl) m1 (by decide +kernel) (pa_cons
      (pe_lc (own := [("one", 2)]) (g := gName 2) (tt := tYes) rfl sc_bars_of_all.nd (pi_tup (pv 0)) (blkOk_by (N := ["works", "other", "one"]) (sc := defScope s_bars_of_all) (by decide +kernel))
        (fun _ _ _ _ _ => pg_name (i := 2) sc_bars_of_all.nd rfl (Or.inr rfl)) (fun _ _ _ _ _ => pts_nil)
        (fun s' H' C' cl fp => pe_callTy (call_tuple_ofK (K := K) rfl) (by rfl) m1 (by decide +kernel) (pa_cons
          (pe_lc (own := [("other", 1)]) (g := gName 1) (tt := tYes) rfl sc_bars_of_all.nd (pi_tupK (K := K) rfl (pv 0)) (blkOk_by (by rfl))
            (fun _ _ _ _ _ => pg_name (i := 1) sc_bars_of_all.nd rfl (Or.inl rfl)) (fun _ _ _ _ _ => pts_nil)
            (fun _ _ _ _ _ => pe_call G1 hr (by rfl) g1 kp1 b1 .nil pass0 (pa_cons (pv 2) (pa_cons (pv 1) pa_nil)))) pa_nil))) pa_nil))), ?_⟩
    obtain ⟨a', xs, ea, hS, hT⟩ := hW.toTup
    cases ea
    have hlen := hT.len
    rw [List.length_map] at hlen
    refine ⟨.ref a, rfl, a, rfl, ⟨_, hS⟩, fun D hD => ?_⟩
    refine lc_tup (xs := xs) (fun i H' => Grow K H D (barD ws) i H') (.zero hD) (fun i H' _ h => Same.tup h.1 hS) (fun i x H' hx h => ?_) (fun H' h => ?_)
    · obtain ⟨o, c1, ho, rfl, hc1⟩ := hT.works hx
      have fewr : (ws.map (cellD o)).length ≤ 1000 := by
        have := hg.few
        rw [List.length_map]
        omega
      refine ⟨rfl, ?_⟩
      refine ⟨.ref a, rfl, a, rfl, ⟨_, Same.tup h.1 hS⟩, fun D2 hD2 => ?_⟩
      refine lc_tup (xs := xs) (fun j H2 => Grow K H' D2 (ws.map (cellD o)) j H2) (.zero hD2) (fun i H2 _ h2 => Same.tup (h.1.trans h2.1) hS) (fun j y H2 hy h2 => ?_) (fun H2 h2 => ?_)
      · obtain ⟨o2, c2, ho2, rfl, hc2⟩ := hT.works hy
        refine ⟨rfl, .ref c1, rfl, .ref c2, rfl, c1, c2, o, o2, rfl, Same.tup (h.1.trans h2.1) hc1, Same.tup (h.1.trans h2.1) hc2, hg.mem ho, hg.mem ho2, fun H3 p e3 np hp => ?_⟩
        refine h2.next hD2 fewr e3 (by rw [List.getElem?_map, ho2]; rfl) (.ofInts ?_)
        rw [← nV_eq]
        exact .of hp
      · obtain ⟨e2, acc, g1, g2⟩ := h2.done (by rw [List.length_map, hlen])
        refine ⟨D2, acc, rfl, .inl ⟨.of g1, fun l nl => ?_⟩⟩
        exact h.next hD hg.lt (e2.trans (same_new nl)) (by rw [List.getElem?_map, ho]; rfl) (.new nl g2)
    · obtain ⟨e2, acc, g1, g2⟩ := h.done (by rw [List.length_map, hlen])
      exact ⟨D, acc, rfl, .inl ⟨.of g1, fun l nl => q _ l (e2.trans (same_new nl)) (.new nl g2)⟩⟩
end
end Sg
set_option Elab.async false
set_option linter.all false
set_option maxRecDepth 100000
set_option maxHeartbeats 4000000
namespace Sg
open PySem PySem.Spec PyProof.Rows L2 StX
/-! ## the bars of a line, flat -/
theorem flatL_of {K : PySem.W.Frag} {H : Hp} {a : List Int} : ∀ {cells : List V} {ws : List (List Int)}, TpAll K H cells (ws.map (cellD a)) → FlatL K H cells ((rowB a ws).map V.int)
  | _, [], .no => .nil
  | _, b :: ws, .on t r => by
    obtain ⟨c, rfl, hs⟩ := t.toInts
    show FlatL K H _ ((nI (barsN a b) ++ rowB a ws).map V.int)
    rw [List.map_append]
    exact .cons hs (flatL_of r)
theorem flatR_of {K : PySem.W.Frag} {H : Hp} {vs : List (List Int)} : ∀ {rows : List V} {ws : List (List Int)}, TpAll K H rows (ws.map fun a => rowD a vs) → FlatR K H rows ((allB ws vs).map V.int)
  | _, [], .no => .nil
  | _, b :: ws, .on t r => by
    obtain ⟨c, xs, rfl, hs, ht⟩ := t.toTup
    show FlatR K H _ ((rowB b vs ++ allB ws vs).map V.int)
    rw [List.map_append]
    exact .cons hs (flatL_of ht) (flatR_of r)
theorem bars_le {a b : List Int} (h : IsWork a) : (nI (barsN a b)).length ≤ 60 := by
  rw [List.length_map]
  have := h.most
  exact Nat.le_trans (barsTo_len a b (a.length - 1)) (by omega)
theorem rowB_len {a : List Int} (h : IsWork a) : ∀ (ws : List (List Int)), (rowB a ws).length ≤ 60 * ws.length
  | [] => Nat.le_refl _
  | b :: ws => by
    show (nI (barsN a b) ++ rowB a ws).length ≤ _
    rw [List.length_append, List.length_cons]
    have := bars_le h (b := b)
    have := rowB_len h ws
    omega
theorem allB_len {vs : List (List Int)} : ∀ (ws : List (List Int)), (∀ w ∈ ws, IsWork w) → (allB ws vs).length ≤ 60 * vs.length * ws.length
  | [], _ => Nat.zero_le _
  | b :: ws, h => by
    show (rowB b vs ++ allB ws vs).length ≤ _
    rw [List.length_append, List.length_cons, Nat.mul_succ]
    have := rowB_len (h b List.mem_cons_self) vs
    have := allB_len (vs := vs) ws fun w hw => h w (List.mem_cons_of_mem _ hw)
    omega
theorem mem_allB {ws vs : List (List Int)} {x : Int} : x ∈ allB ws vs ↔ ∃ a ∈ ws, ∃ b ∈ vs, x ∈ nI (barsN a b) := by
  unfold allB rowB
  simp only [List.mem_flatMap]
theorem bar_pos {a b : List Int} {x : Int} (h : x ∈ nI (barsN a b)) : 1 ≤ x := by
  obtain ⟨d, hd, rfl⟩ := List.mem_map.mp h
  have := (List.mem_range'_1.mp (List.mem_filter.mp hd).1).1
  omega
theorem top_of {l : List Int} {m : Int} (hp : ∀ x ∈ l, 1 ≤ x) (h0 : l = [] → m = 0) (h1 : l ≠ [] → m ∈ l ∧ ∀ x ∈ l, x ≤ m) : Top l m := by
  by_cases z : l = []
  · have e := h0 z
    subst z
    exact ⟨by omega, fun x hx => (nomatch hx), .inl e⟩
  · obtain ⟨g1, g2⟩ := h1 z
    exact ⟨by have := hp _ g1; omega, g2, .inr g1⟩
section
variable {P : Program} {w : World} {K : PySem.W.Frag} {mg : Str → Option Value} {base : Heap}
/-! ### __init__ -/
def spInit (K : PySem.W.Frag) (C : Addr) : Sp := fun vs H Q _ => ∃ (x dx : Addr) (rest : List V) (ws : List (List Int)), vs = .ref x :: rest ∧ H x = some (.ins C dx []) ∧ TpAll K H rest (tDs ws) ∧ GoodL ws ∧
  ∀ H', (∀ b o, H b = some o → b ≠ x → H' b = some o) → LineAt K C H' x ws → Q .non H'
theorem ok_init {f f1 f2 C : Addr} {fd fd1 fd2 : FuncData} {k : Nat} (F : Fun K "__init__" "Line.__init__" s_Line_init f fd) (T : LC K mg C) (hM : ∃ t, mg "MOST_WORKS" = some (.int 3 t))
    (G1 : FnOk P w K mg base CX0 k f1 fd1 ["thing"] (spIsWork K)) (kp1 : PySem.W.keepIn K (.ref f1) = true) (b1 : Binds K fd1 ["thing"] []) (g1 : mg "is_work" = some (.ref f1))
    (G2 : FnOk P w K mg base CX0 k f2 fd2 ["works"] (spBarsAll K)) (kp2 : PySem.W.keepIn K (.ref f2) = true) (b2 : Binds K fd2 ["works"] []) (g2 : mg "_bars_of_all" = some (.ref f2))
    (m1 : mg "all" = none) (m2 : mg "len" = none) (m3 : mg "max" = none) : FnR P w K mg base CX0 (k + 1) f (spInit K C) := by
  obtain ⟨tM, nM⟩ := hM
  obtain ⟨oc, od, kV, doc, pm, an, cdv, ct, osl, rfl, lk, hcd⟩ := F.ex
  have R := fn_star (CX := CX0) (P := P) (w := w) (mg := mg) (base := base) (k := k) (ps := ["self"]) (pv := "works") (sp := fun vs H Q _ => ∃ (x dx p : Addr) (rest : List V) (ws : List (List Int)), vs = [.ref x, .ref p] ∧ H x = some (.ins C dx []) ∧ H p = some (.tup rest) ∧ TpAll K H rest (tDs ws) ∧ GoodL ws ∧
    ∀ H', (∀ b o, H b = some o → b ≠ x → H' b = some o) → LineAt K C H' x ws → Q .non H') lk hcd sc_Line_init cxUp_none (bind_star1 (B := fun us => bindArgs (PySem.W.fnOf "__init__" "Line.__init__" (defArgs s_Line_init) (defBody s_Line_init) (defScope s_Line_init) .none kV doc pm an cdv ct) ⟨us, []⟩) (fun _ => rfl) (fun _ _ _ => rfl)) ?_
  · refine R.imp fun vs H Q E h => ?_
    obtain ⟨x, dx, rest, ws, rfl, hx, hT, hg, q⟩ := h
    have hl := hT.len
    have := hg.few
    rw [List.length_map] at hl
    refine ⟨[.ref x], rest, rfl, rfl, Nat.le_of_lt (small1000 (by omega)), fun p np => ⟨x, dx, p, rest, ws, rfl, same_new np _ _ hx, upd_same, hT.stay (.of (same_new np)), hg, fun H' hk hL => q H' (fun b o e hb => hk b o (same_new np _ _ e) hb) hL⟩⟩
  · intro A outer s H vs Q E hr h
    obtain ⟨x, dx, p, rest, ws, rfl, hx, hp, hT, hg, q⟩ := h
    refine ⟨_, pss_cons (ps_if (PW.pt (pw_or (pt_not (pt_truth (pv 1) (fun _ => rfl))) (pw_or1 (pt_not (pt_val (pe_callB (cr_all rfl) (by rfl) m1 (by decide +kernel) (pa_cons
        (pe_lc (own := [("work", 2)]) (g := gName 2) (tt := tYes) rfl sc_Line_init.nd (pi_tup (pv 1)) (blkOk_by (N := ["self", "works", "work", "row", "pair", "bar"]) (sc := defScope s_Line_init) (by decide +kernel))
          (fun _ _ _ _ _ => pg_name (i := 2) sc_Line_init.nd rfl (Or.inl rfl)) (fun _ _ _ _ _ => pts_nil)
          (fun _ _ _ _ _ => pe_call G1 hr (by rfl) g1 kp1 b1 .nil pass0 (pa_cons (pv 2) pa_nil))) pa_nil))))))) (pss_one ps_never) pss_nil)
      (pss_cons (ps_if (pt_cmpR op_gt (pe_callB call_len_seq (by rfl) m2 PySem.boot_len (pa_cons (pv 1) pa_nil)) (pe_glob (v := .int 3) (by rfl) nM ⟨_, rfl⟩) (nomark _)) (pss_one ps_never) pss_nil)
      (pss_cons (ps_fld (pv 0) (pv 1) rfl)
      (pss_cons (ps_fld (pv 0) (pe_call G2 hr (by rfl) g2 kp2 b2 .nil pass0 (pa_cons (pv 1) pa_nil)) rfl)
      (pss_one (ps_fld (pv 0) (pe_callBK (cr_maxD rfl hr) (by rfl) m3 (by decide +kernel) (pa_cons (pe_flat (k1 := 3) (k2 := 4) (k3 := 5) (own := [("row", 3), ("pair", 4), ("bar", 5)]) rfl sc_Line_init.nd (pe_fld (pv 0) rfl)
          (blkOk_by (N := ["self", "works", "work", "row", "pair", "bar"]) (sc := defScope s_Line_init) (by decide +kernel)) rfl rfl rfl (fun _ _ => rfl) (fun _ _ => rfl) (fun _ _ => rfl)) pa_nil) (pk_cons pe_int pk_nil)) rfl))))), ?_⟩
    have hl := hT.len
    rw [List.length_map] at hl
    have hp' : SqT K H p rest := .of hp
    have hemp : (!rest.isEmpty) = true := by
      have := hg.least
      cases rest with
      | nil => rw [← hl] at this; exact absurd this (by decide)
      | cons => rfl
    refine ⟨.ref p, rfl, !rest.isEmpty, .inr (.inl ⟨rest, hp', rfl⟩), ?_⟩
    rw [hemp]
    refine iteF ?_
    refine ⟨.ref p, rfl, p, rfl, ⟨_, hp'⟩, fun D hD => ?_⟩
    refine lc_tup (xs := rest) (fun i H' => Same H H' ∧ H' D = some (.lst (((List.replicate i true)).map V.bl))) ⟨same_new hD, upd_same⟩ (fun i H' _ h => Same.tup h.1 hp') (fun i y H' hy h => ?_) (fun H' h => ?_)
    · obtain ⟨w1, c, hw, rfl, hc⟩ := hT.works hy
      refine ⟨rfl, .ref c, rfl, c, w1, rfl, Same.tup h.1 hc, hg.mem hw, fun H2 e2 => ?_⟩
      refine ⟨_, e2 _ _ h.2, ?_, fun b o e => ?_, ?_⟩
      · rw [List.length_map, List.length_replicate]
        have := hg.few
        have := (List.getElem?_eq_some_iff.mp hw).1
        exact small1000 (by omega)
      · rw [upd_ne (ne_of_none e hD)]
        exact e2 _ _ (h.1 _ _ e)
      · rw [upd_same, List.replicate_succ', List.map_append]
        rfl
    · have hall : (List.replicate rest.length true).all id = true := by simp
      refine ⟨D, _, rfl, .of h.2, true, congrArg V.bl hall, iteF ?_⟩
      have hpH : SqT K H' p rest := Same.tup h.1 hp'
      refine ⟨.ref p, rfl, p, rest, rfl, .inr hpH, _, 3, rfl, rfl, _, rfl, ?_⟩
      have c3 : decide ((((rest.length : Nat) : Int)) > 3) = false := decide_eq_false (by have := hg.few; omega)
      rw [c3]
      refine iteF ?_
      have hx1 := h.1 _ _ hx
      refine ⟨.ref p, rfl, .ref x, rfl, x, C, dx, [], rfl, hx1, T.cl, T.nW, (by show 0 < 1000; decide), ?_⟩
      have hW1 : Tp K H' (.ref p) (.tuple (tDs ws)) := .tu hpH (hT.stay (.of h.1))
      have hW2 := hW1.stayT (tu_ins hx1 (o := .ins C dx (putF "_works" (.ref p) [])))
      generalize hH2 : upd H' x (.ins C dx (putF "_works" (.ref p) [])) = H2 at hW2 ⊢
      have hx2 : H2 x = some (.ins C dx (putF "_works" (.ref p) [])) := by rw [← hH2]; exact upd_same
      refine ⟨.ref p, rfl, p, ws, rfl, hW2, hg, fun H3 b e3 hb => ?_⟩
      have hx3 := e3 _ _ hx2
      refine ⟨.ref x, rfl, x, C, dx, _, rfl, hx3, T.cl, T.nB, (by show 1 < 1000; decide), ?_⟩
      have hW4 := (hW2.stay (.of e3)).stayT (tu_ins hx3 (o := .ins C dx (putF "_bars" (.ref b) (putF "_works" (.ref p) []))))
      have hB4 := hb.stayT (tu_ins hx3 (o := .ins C dx (putF "_bars" (.ref b) (putF "_works" (.ref p) []))))
      generalize hH4 : upd H3 x (.ins C dx (putF "_bars" (.ref b) (putF "_works" (.ref p) []))) = H4 at hW4 hB4 ⊢
      have hx4 : H4 x = some (.ins C dx (putF "_bars" (.ref b) (putF "_works" (.ref p) []))) := by rw [← hH4]; exact upd_same
      obtain ⟨b', rows, eb, hbS, hbT⟩ := hB4.toTup
      cases eb
      have lb : (putF "_bars" (.ref b) (putF "_works" (.ref p) [])).lookup ("_bars" : Str) = some (.ref b) := by rw [lookup_putF, if_pos rfl]
      have lenB : ((allB ws ws).map V.int).length ≤ 1000000 := by
        rw [List.length_map]
        have z := allB_len (vs := ws) ws hg.work
        have := hg.few
        have z2 : 60 * ws.length * ws.length ≤ 60 * 3 * 3 := Nat.mul_le_mul (Nat.mul_le_mul (Nat.le_refl _) this) this
        omega
      refine ⟨.ref x, rfl, x, C, dx, _, _, rfl, hx4, T.cl, T.nB, lb, b, rows, _, rfl, hbS, flatR_of hbT, lenB, fun D2 nD2 => ?_⟩
      have s5 : Same H4 (upd H4 D2 (.lst ((allB ws ws).map V.int))) := same_new nD2
      refine ⟨D2, allB ws ws, 0, rfl, rfl, .of upd_same, fun m h0 h1 => ?_⟩
      have hx5 := s5 _ _ hx4
      refine ⟨.ref x, rfl, x, C, dx, _, rfl, hx5, T.cl, T.nR, (by show 2 < 1000; decide), ?_⟩
      have hW6 := (hW4.stay (.of s5)).stayT (tu_ins hx5 (o := .ins C dx (lf p b m)))
      have hB6 := (hB4.stay (.of s5)).stayT (tu_ins hx5 (o := .ins C dx (lf p b m)))
      refine q _ (fun c o e hc => ?_) ⟨dx, p, b, m, upd_same, hW6, hB6, top_of (fun y hy => ?_) h0 h1, hg⟩
      · rw [upd_ne hc]
        refine s5 _ _ ?_
        rw [← hH4, upd_ne hc]
        refine e3 _ _ ?_
        rw [← hH2, upd_ne hc]
        exact h.1 _ _ e
      · obtain ⟨_, _, _, _, z⟩ := mem_allB.mp hy
        exact bar_pos z
end
end Sg
set_option Elab.async false
set_option linter.all false
set_option maxRecDepth 100000
set_option maxHeartbeats 4000000
namespace Sg
open PySem PySem.Spec PyProof.Rows L2 StX
/-! ## a Line is made -/
theorem make_line {K : PySem.W.Frag} {C : Addr} {H1 : Hp} {vs : List V} {ws : List (List Int)} {Q : VK} (hT : TpAll K H1 vs (tDs ws)) (hg : GoodL ws)
    (q : ∀ H' a, Same H1 H' → H1 a = none → LineAt K C H' a ws → Q (.ref a) H') :
    ∀ x dx, H1 x = none → H1 dx = none → dx ≠ x → spInit K C (V.ref x :: vs) (upd (upd H1 dx (.own x)) x (.ins C dx [])) (fun v H2 => v = .non ∧ Q (.ref x) H2) E0 := by
  intro x dx nx ndx ne
  have s0 : Same H1 (upd (upd H1 dx (.own x)) x (.ins C dx [])) := fun b o e => by
    rw [upd_ne (ne_of_none e nx), upd_ne (ne_of_none e ndx)]
    exact e
  exact ⟨x, dx, vs, ws, rfl, upd_same, hT.stay (.of s0), hg, fun H' hk hL => ⟨rfl, q H' x (fun b o e => hk b o (s0 b o e) (ne_of_none e nx)) nx hL⟩⟩
/-- C(*e) -/
theorem pe_makeS {X : Cx} {CX : CXT} {k : Nat} {f C : Addr} {sp : Sp} {E : XK} {x : Str} {e : Expr} {te : TE} {p pos sp_ : Pos} (M : Mk X.K C f) (F : FnR X.prog X.w X.K X.mg X.base CX k f sp) (hr : Room (k + 1) X.A)
    (hg : Gl X x) (hm : X.mg x = some (.ref C)) (hx : Passes CX X E) (he : PE X e te) (hd : (x == ("__debug__" : Str)) = false := by decide) (hst : starEach [.Starred e sp_] X.env = [(true, eval e X.env)] := by rfl) :
    PE X (.Call (.Name x p) [.Starred e sp_] [] pos) (fun σ H Q => te σ H fun y H1 => ∃ a xs, y = V.ref a ∧ (SqT X.K H1 a xs ∨ SqL X.K H1 a xs) ∧
      ∀ z dz, H1 z = none → H1 dz = none → dz ≠ z → sp (V.ref z :: xs) (upd (upd H1 dz (.own z)) z (.ins C dz [])) (fun v H2 => v = .non ∧ Q (.ref z) H2) E) := by
  refine ⟨fun pins s σ H Q I h => wpAny_Call_Name_kw (ld_glob I hg hm ?_ hd)⟩
  refine PySem.W.callWith_S (h₀ := X.base) I.ok.mod.kin M.kp (thn (he.run pins s σ H _ I h) fun v s1 ⟨y, H1, I1, ry, a, xs, ey, hxs, q⟩ => ?_) hst
  subst ey
  obtain rfl : v = Value.ref a := ry
  exact star_any I1 hxs fun us s2 I2 rv => ⟨I2.kIn, run_makeR M F hr hx I2 rv q⟩
theorem GoodL.back {ws : List (List Int)} (h : GoodL ws) : GoodL (ws.map List.reverse) := by
  refine ⟨by rw [List.length_map]; exact h.least, by rw [List.length_map]; exact h.few, fun w hw => ?_⟩
  obtain ⟨v, hv, rfl⟩ := List.mem_map.mp hw
  have i := h.work v hv
  refine ⟨by rw [List.length_reverse]; exact i.pos, by rw [List.length_reverse]; exact i.most, fun x hx => i.items x (List.mem_reverse.mp hx), fun x hx => ?_, fun x hx => ?_⟩
  · have := i.pos
    rw [List.getElem?_reverse (by omega)] at hx
    exact i.last x (by rw [← hx]; congr 1)
  · have := i.pos
    rw [List.length_reverse, List.getElem?_reverse (by omega)] at hx
    exact i.head x (by rw [← hx]; congr 1; omega)
theorem cut_upto (xs : List V) (d : Nat) : cutV xs none (some (d : Int)) = xs.take d := by
  unfold cutV
  rw [HT.sIx_nat, HT.sIx_none, List.drop_zero, Nat.sub_zero]
  rcases Nat.le_total d xs.length with h | h
  · rw [Nat.min_eq_left h]
  · rw [Nat.min_eq_right h, List.take_of_length_le h, List.take_length]
end Sg
set_option Elab.async false
set_option linter.all false
set_option maxRecDepth 100000
set_option maxHeartbeats 4000000
namespace Sg
open PySem PySem.Spec PyProof.Rows L2 StX
/-- what isinstance asks of the class -/
structure LI (K : PySem.W.Frag) (C : Addr) : Prop where
  ha : PySem.W.findIn K (.ref C) "__class__" = some (some (.builtin "object.__class__"))
  hn : PySem.W.specialIn K (.builtin "object.__class__") "__get__" = some (some (.builtin "getset_descriptor.__get__"))
  ht : PySem.W.takesIn K (.builtin "object.__class__") = some true
  hm : PySem.W.mroIn K C (.type "object") = some true
  kit : PySem.W.kitOne K (.ref C) (.ref C) = some true
section
variable {P : Program} {w : World} {K : PySem.W.Frag} {mg : Str → Option Value} {base : Heap}
theorem isLine {C a : Addr} {H : Hp} {ws : List (List Int)} (c : Cls K C) (T : LI K C) (h : LineAt K C H a ws) : TyX K H (.ref a) (.ref C) := by
  obtain ⟨dx, t, b, r, h1, _⟩ := h
  exact .base (.ins h1 c T.ha T.hn T.ht T.hm)
/-! ### line(one, other) -/
def spCall (K : PySem.W.Frag) (C : Addr) : Sp := fun vs H Q _ => ∃ (a : Addr) (ws : List (List Int)) (i j : Nat) (x y : List Int), vs = [.ref a, .int i, .int j] ∧ LineAt K C H a ws ∧ ws[i]? = some x ∧ ws[j]? = some y ∧
  ∀ c, SqT K H c (nV (barsN x y)) → Q (.ref c) H
theorem ok_call {f f1 C : Addr} {fd fd1 : FuncData} {k : Nat} (F : Fun K "__call__" "Line.__call__" s_Line_call f fd) (T : LC K mg C)
    (G1 : FnOk P w K mg base CX0 k f1 fd1 ["line", "thing"] (spReqKind K C)) (kp1 : PySem.W.keepIn K (.ref f1) = true) (b1 : Binds K fd1 ["line", "thing"] []) (g1 : mg "require_kind" = some (.ref f1)) :
    FnOk P w K mg base CX0 (k + 1) f fd ["self", "one", "other"] (spCall K C) := by
  refine F.ok sc_Line_call (fun vs H Q E h => ?_) (fun cdv A outer s H vs Q E hr h => ?_)
  · obtain ⟨a, ws, i, j, x, y, rfl, _⟩ := h; rfl
  · obtain ⟨a, ws, i, j, x, y, rfl, hL, hx, hy, q⟩ := h
    refine ⟨_, pss_cons (ps_expr (pe_call G1 hr (by rfl) g1 kp1 b1 .nil pass0 (pa_cons (pv 0) (pa_cons (pv 1) pa_nil))))
      (pss_cons (ps_expr (pe_call G1 hr (by rfl) g1 kp1 b1 .nil pass0 (pa_cons (pv 0) (pa_cons (pv 2) pa_nil))))
      (pss_one (ps_ret (pe_ix ix_tup (pe_ix ix_tup (pe_fld (pv 0) rfl) (pv 1) (fun _ _ => rfl)) (pv 2) (fun _ _ => rfl))))), ?_⟩
    have hi := (List.getElem?_eq_some_iff.mp hx).1
    have hj := (List.getElem?_eq_some_iff.mp hy).1
    refine ⟨.ref a, rfl, .int i, rfl, a, ws, i, rfl, hL, hi, .ref a, rfl, .int j, rfl, a, ws, j, rfl, hL, hj, ?_⟩
    obtain ⟨dx, t, b, r, h1, h2, h3, h4, h5⟩ := hL
    obtain ⟨b', rows, eb, hS, hT⟩ := h3.toTup
    cases eb
    have lr := hT.len
    rw [List.length_map] at lr
    obtain ⟨ro, hro⟩ : ∃ ro, rows[i]? = some ro := ⟨rows[i]'(by omega), List.getElem?_eq_getElem _⟩
    obtain ⟨d, hd, tr⟩ := hT.at hro
    rw [List.getElem?_map, hx] at hd
    cases hd
    obtain ⟨b2, cells, rfl, hS2, hT2⟩ := tr.toTup
    have lc := hT2.len
    rw [List.length_map] at lc
    obtain ⟨ce, hce⟩ : ∃ ce, cells[j]? = some ce := ⟨cells[j]'(by omega), List.getElem?_eq_getElem _⟩
    obtain ⟨d, hd, tc⟩ := hT2.at hce
    rw [List.getElem?_map, hy] at hd
    cases hd
    obtain ⟨c, rfl, hc⟩ := tc.toInts
    refine ⟨.ref a, rfl, a, C, dx, _, _, rfl, h1, T.cl, T.nB, lf_bars _ _ _, .int i, rfl, b, rows, i, .ref b2, rfl, rfl, hS, atI_nat hro, ?_⟩
    refine ⟨.int j, rfl, b2, cells, j, .ref c, rfl, rfl, hS2, atI_nat hce, q c ?_⟩
    rw [nV_eq]
    exact hc
/-! ### one == other -/
def spEq (K : PySem.W.Frag) (C : Addr) : Sp := fun vs H Q _ => ∃ (a b : Addr) (ws us : List (List Int)), vs = [.ref a, .ref b] ∧ LineAt K C H a ws ∧ LineAt K C H b us ∧ Q (.bl (decide (ws = us))) H
theorem ok_eq {f C : Addr} {fd : FuncData} {k : Nat} (F : Fun K "__eq__" "Line.__eq__" s_Line_eq f fd) (T : LC K mg C) (I : LI K C) (m1 : mg "isinstance" = none) :
    FnOk P w K mg base CX0 (k + 1) f fd ["self", "other"] (spEq K C) := by
  refine F.ok sc_Line_eq (fun vs H Q E h => ?_) (fun cdv A outer s H vs Q E hr h => ?_)
  · obtain ⟨a, b, ws, us, rfl, _⟩ := h; rfl
  · obtain ⟨a, b, ws, us, rfl, hL, hR, q⟩ := h
    have hu := hr.units
    refine ⟨_, pss_one (ps_ret (pe_and (pe_callB call_isi (by rfl) m1 (by decide +kernel) (pa_cons (pv 1) (pa_cons (pe_glob (v := .ref C) (by rfl) T.mgC rfl) pa_nil)))
      (pe_one (pe_cmpR (op_eqD hu) (pe_fld (pv 0) rfl) (pe_fld (pv 1) rfl) (nomark _))))), ?_⟩
    refine ⟨.ref b, rfl, .ref b, .ref C, .ref C, .ref C, true, rfl, .own C, isLine T.cl I hR, I.kit, ?_⟩
    obtain ⟨dx, t, b1, r, h1, h2, h3, h4, h5⟩ := hL
    obtain ⟨dx', t', b1', r', h1', h2', h3', h4', h5'⟩ := hR
    refine ⟨true, rfl, iteT ?_⟩
    refine ⟨.ref a, rfl, a, C, dx, _, _, rfl, h1, T.cl, T.nW, lf_works _ _ _, .ref b, rfl, b, C, dx', _, _, rfl, h1', T.cl, T.nW, lf_works _ _ _, _, _, h2.dp, h2'.dp, shaped_tDs _, shaped_tDs _, ?_⟩
    rw [show PyData.eqv (.tuple (tDs ws)) (.tuple (tDs us)) = decide (ws = us) from by rw [PyData.eqv, eqv_tDs]]
    exact q
end
end Sg
set_option Elab.async false
set_option linter.all false
set_option maxRecDepth 100000
set_option maxHeartbeats 4000000
namespace Sg
open PySem PySem.Spec PyProof.Rows L2 StX
section
variable {P : Program} {w : World} {K : PySem.W.Frag} {mg : Str → Option Value} {base : Heap}
theorem GoodL.plus {ws us : List (List Int)} (h : GoodL ws) (g : GoodL us) (hl : ws.length + us.length ≤ 3) : GoodL (ws ++ us) := by
  refine ⟨by have := h.least; rw [List.length_append]; omega, by rw [List.length_append]; exact hl, fun w hw => ?_⟩
  rcases List.mem_append.mp hw with z | z
  · exact h.work w z
  · exact g.work w z
theorem GoodL.less {ws : List (List Int)} (h : GoodL ws) {i : Nat} (hi : i < ws.length) (h2 : 2 ≤ ws.length) : GoodL (ws.take i ++ ws.drop (i + 1)) := by
  have := h.few
  refine ⟨by rw [List.length_append, List.length_take, List.length_drop]; omega, by rw [List.length_append, List.length_take, List.length_drop]; omega, fun w hw => ?_⟩
  rcases List.mem_append.mp hw with z | z
  · exact h.work w (List.mem_of_mem_take z)
  · exact h.work w (List.mem_of_mem_drop z)
/-! ### one + other -/
def spAdd (K : PySem.W.Frag) (C : Addr) : Sp := fun vs H Q _ => ∃ (a b : Addr) (ws us : List (List Int)), vs = [.ref a, .ref b] ∧ LineAt K C H a ws ∧ LineAt K C H b us ∧ ws.length + us.length ≤ 3 ∧
  ∀ H' x, Same H H' → H x = none → LineAt K C H' x (ws ++ us) → Q (.ref x) H'
theorem ok_add {f f1 C : Addr} {fd : FuncData} {k : Nat} (F : Fun K "__add__" "Line.__add__" s_Line_add f fd) (T : LC K mg C) (I : LI K C) (M : Mk K C f1) (G : FnR P w K mg base CX0 k f1 (spInit K C)) (m1 : mg "isinstance" = none) :
    FnOk P w K mg base CX0 (k + 2) f fd ["self", "other"] (spAdd K C) := by
  refine F.ok sc_Line_add (fun vs H Q E h => ?_) (fun cdv A outer s H vs Q E hr h => ?_)
  · obtain ⟨a, b, ws, us, rfl, _⟩ := h; rfl
  · obtain ⟨a, b, ws, us, rfl, hL, hR, hl, q⟩ := h
    refine ⟨_, pss_cons (ps_if (pt_not (pt_val (pe_callB call_isi (by rfl) m1 (by decide +kernel) (pa_cons (pv 1) (pa_cons (pe_glob (v := .ref C) (by rfl) T.mgC rfl) pa_nil))))) (pss_one ps_never) pss_nil)
      (pss_cons (ps_set (i := 2) sc_Line_add.nd rfl (Or.inl rfl) (pe_op op_catA (pe_fld (pv 0) rfl) (pe_fld (pv 1) rfl)))
      (pss_one (ps_ret (pe_makeS M G hr (by rfl) T.mgC pass0 (pv 2))))), ?_⟩
    refine ⟨.ref b, rfl, .ref b, .ref C, .ref C, .ref C, true, rfl, .own C, isLine T.cl I hR, I.kit, true, rfl, iteF ?_⟩
    obtain ⟨dx, t, b1, r, h1, h2, h3, h4, h5⟩ := id hL
    obtain ⟨dx', t', b1', r', h1', h2', h3', h4', h5'⟩ := id hR
    obtain ⟨_, xs, e, hS, hT⟩ := h2.toTup
    cases e
    obtain ⟨_, ys, e, hS', hT'⟩ := h2'.toTup
    cases e
    have l1 := hT.len
    have l2 := hT'.len
    rw [List.length_map] at l1 l2
    have p1 := h5.least
    have p2 := h5'.least
    refine ⟨.ref a, rfl, a, C, dx, _, _, rfl, h1, T.cl, T.nW, lf_works _ _ _, .ref b, rfl, b, C, dx', _, _, rfl, h1', T.cl, T.nW, lf_works _ _ _, t, t', xs, ys, rfl, rfl, hS, hS', Nat.le_of_lt (small1000 (by omega)),
      (fun z => ?_), (fun _ z => ?_), (fun _ _ p np => ?_)⟩
    · rw [z] at l1; rw [← l1] at p1; exact absurd p1 (by decide)
    · rw [z] at l2; rw [← l2] at p2; exact absurd p2 (by decide)
    · refine ⟨.ref p, rfl, p, xs ++ ys, rfl, .inl (.of upd_same), ?_⟩
      have st : St K H (upd H p (.tup (xs ++ ys))) := .of (same_new np)
      refine make_line (ws := ws ++ us) ?_ (h5.plus h5' hl) (fun H' x e3 nx hLx => ?_)
      · have z := (hT.stay st).add (hT'.stay st)
        rw [← List.map_append] at z
        exact z
      · exact q H' x ((same_new np).trans e3) (Same.free (same_new np) nx) hLx
/-! ### line - kind -/
def spSub (K : PySem.W.Frag) (C : Addr) : Sp := fun vs H Q _ => ∃ (a : Addr) (ws : List (List Int)) (i : Nat), vs = [.ref a, .int i] ∧ LineAt K C H a ws ∧ i < ws.length ∧ 2 ≤ ws.length ∧
  ∀ H' x, Same H H' → H x = none → LineAt K C H' x (ws.take i ++ ws.drop (i + 1)) → Q (.ref x) H'
theorem ok_sub {f f1 f2 C : Addr} {fd fd2 : FuncData} {k : Nat} (F : Fun K "__sub__" "Line.__sub__" s_Line_sub f fd) (T : LC K mg C) (M : Mk K C f1) (G : FnR P w K mg base CX0 k f1 (spInit K C))
    (G2 : FnOk P w K mg base CX0 k f2 fd2 ["line", "thing"] (spReqKind K C)) (kp2 : PySem.W.keepIn K (.ref f2) = true) (b2 : Binds K fd2 ["line", "thing"] []) (g2 : mg "require_kind" = some (.ref f2)) (m1 : mg "len" = none) :
    FnOk P w K mg base CX0 (k + 2) f fd ["self", "other"] (spSub K C) := by
  refine F.ok sc_Line_sub (fun vs H Q E h => ?_) (fun cdv A outer s H vs Q E hr h => ?_)
  · obtain ⟨a, ws, i, rfl, _⟩ := h; rfl
  · obtain ⟨a, ws, i, rfl, hL, hi, h2w, q⟩ := h
    refine ⟨_, pss_cons (ps_expr (pe_call G2 (hr.mono (Nat.le_succ k)) (by rfl) g2 kp2 b2 .nil pass0 (pa_cons (pv 0) (pa_cons (pv 1) pa_nil))))
      (pss_cons (ps_if (pt_cmpR op_eq (pe_callB call_len_seq (by rfl) m1 PySem.boot_len (pa_cons (pe_fld (pv 0) rfl) pa_nil)) pe_int (nomark _)) (pss_one ps_never) pss_nil)
      (pss_cons (ps_set (i := 2) sc_Line_sub.nd rfl (Or.inl rfl) (pe_op op_catA (pe_slice sl_tup (pe_fld (pv 0) rfl) po_none (po_some (pv 1))) (pe_slice sl_tup (pe_fld (pv 0) rfl) (po_some (pe_op op_add (pv 1) pe_int)) po_none)))
      (pss_one (ps_ret (pe_makeS M G hr (by rfl) T.mgC pass0 (pv 2)))))), ?_⟩
    refine ⟨.ref a, rfl, .int i, rfl, a, ws, i, rfl, hL, hi, ?_⟩
    obtain ⟨dx, t, b1, r, h1, h2, h3, h4, h5⟩ := id hL
    obtain ⟨_, xs, e, hS, hT⟩ := h2.toTup
    cases e
    have l1 := hT.len
    rw [List.length_map] at l1
    have few := h5.few
    refine ⟨.ref a, rfl, a, C, dx, _, _, rfl, h1, T.cl, T.nW, lf_works _ _ _, t, xs, rfl, .inr hS, rfl, ?_⟩
    have c1 : decide (V.int ((xs.length : Nat) : Int) = V.int 1) = false := decide_eq_false fun z => by have := V.int.inj z; omega
    rw [c1]
    refine ⟨false, rfl, iteF ?_⟩
    have w1 : ¬ (HT.sIx xs.length 0 none = 0 ∧ HT.sIx xs.length xs.length (some (i : Int)) = xs.length) := by
      rintro ⟨_, z⟩
      rw [HT.sIx_nat] at z
      omega
    refine ⟨.ref a, rfl, a, C, dx, _, _, rfl, h1, T.cl, T.nW, lf_works _ _ _, .int i, rfl, i, rfl, t, xs, rfl, hS, w1, fun p np => ?_⟩
    have s1 : Same H (upd H p (.tup (cutV xs none (some (i : Int))))) := same_new np
    have e1 : ((i : Int) + 1) = ((i + 1 : Nat) : Int) := by omega
    have w2 : ¬ (HT.sIx xs.length 0 (some ((i : Int) + 1)) = 0 ∧ HT.sIx xs.length xs.length none = xs.length) := by
      rintro ⟨z, _⟩
      rw [e1, HT.sIx_nat] at z
      omega
    have hp1 : (upd H p (.tup (cutV xs none (some (i : Int))))) p = some (.tup (xs.take i)) := by rw [upd_same, cut_upto]
    generalize hH1 : upd H p (.tup (cutV xs none (some (i : Int)))) = H1 at s1 hp1 ⊢
    refine ⟨.ref a, rfl, a, C, dx, _, _, rfl, s1 _ _ h1, T.cl, T.nW, lf_works _ _ _, .int i, rfl, i, 1, rfl, rfl, (i : Int) + 1, rfl, t, xs, rfl, Same.tup s1 hS, w2, fun p2 np2 => ?_⟩
    have s2 : Same H1 (upd H1 p2 (.tup (cutV xs (some ((i : Int) + 1)) none))) := same_new np2
    have hp2 : (upd H1 p2 (.tup (cutV xs (some ((i : Int) + 1)) none))) p2 = some (.tup (xs.drop (i + 1))) := by rw [upd_same, e1, cut_from]
    generalize hH2 : upd H1 p2 (.tup (cutV xs (some ((i : Int) + 1)) none)) = H2 at s2 hp2 ⊢
    have hp1' := s2 _ _ hp1
    have s12 := s1.trans s2
    have tt : TpAll K H (xs.take i ++ xs.drop (i + 1)) (tDs (ws.take i ++ ws.drop (i + 1))) := by
      have z := (hT.cut i).add (hT.off (i + 1))
      rw [← List.map_take, ← List.map_drop, ← List.map_append] at z
      exact z
    have fin : ∀ (H3 : Hp) (l : Addr), Same H H3 → SqT K H3 l (xs.take i ++ xs.drop (i + 1)) →
        ∃ a' xs', V.ref l = V.ref a' ∧ (SqT K H3 a' xs' ∨ SqL K H3 a' xs') ∧ ∀ z dz, H3 z = none → H3 dz = none → dz ≠ z → spInit K C (V.ref z :: xs') (upd (upd H3 dz (.own z)) z (.ins C dz [])) (fun v H2 => v = .non ∧ Q (.ref z) H2) E0 := by
      intro H3 l e3 hl
      refine ⟨l, _, rfl, .inl hl, make_line (ws := ws.take i ++ ws.drop (i + 1)) (tt.stay (.of e3)) (h5.less hi h2w) fun H' x e4 nx hLx => q H' x (e3.trans e4) (Same.free e3 nx) hLx⟩
    have len2 : (xs.take i).length + (xs.drop (i + 1)).length ≤ sizeLine := by
      rw [List.length_take, List.length_drop]
      exact Nat.le_of_lt (small1000 (by omega))
    refine ⟨p, p2, _, _, rfl, rfl, .of hp1', .of hp2, len2, (fun z => ?_), (fun _ z => ?_), (fun _ _ p3 np3 => ?_)⟩
    · refine ⟨.ref p2, rfl, fin H2 p2 s12 ?_⟩
      rw [z, List.nil_append]
      exact .of hp2
    · refine ⟨.ref p, rfl, fin H2 p s12 ?_⟩
      rw [z, List.append_nil]
      exact .of hp1'
    · exact ⟨.ref p3, rfl, fin _ p3 (s12.trans (same_new np3)) (.of upd_same)⟩
/-! ### -line -/
def spNeg (K : PySem.W.Frag) (C : Addr) : Sp := fun vs H Q _ => ∃ (a : Addr) (ws : List (List Int)), vs = [.ref a] ∧ LineAt K C H a ws ∧
  ∀ H' x, Same H H' → H x = none → LineAt K C H' x (ws.map List.reverse) → Q (.ref x) H'
theorem ok_neg {f f1 C : Addr} {fd : FuncData} {k : Nat} (F : Fun K "__neg__" "Line.__neg__" s_Line_neg f fd) (T : LC K mg C) (M : Mk K C f1) (G : FnR P w K mg base CX0 k f1 (spInit K C)) :
    FnOk P w K mg base CX0 (k + 2) f fd ["self"] (spNeg K C) := by
  refine F.ok sc_Line_neg (fun vs H Q E h => ?_) (fun cdv A outer s H vs Q E hr h => ?_)
  · obtain ⟨a, ws, rfl, _⟩ := h; rfl
  · obtain ⟨a, ws, rfl, hL, q⟩ := h
    refine ⟨_, pss_cons (ps_setLc (i := 1) (own := [("work", 2)]) (g := gName 2) (tt := tYes) rfl sc_Line_neg.nd rfl rfl (sw_true rfl rfl rfl (by decide +kernel)) (pi_tup (pe_fld (pv 0) rfl))
          (blkOk_by (N := ["self", "works", "work"]) (sc := defScope s_Line_neg) (by decide +kernel))
          (fun _ _ _ _ _ => pg_name (i := 2) sc_Line_neg.nd rfl (Or.inl rfl)) (fun _ _ _ _ _ => pts_nil) (fun _ _ _ _ _ => pe_revT (K := K) rfl (pv 2)))
      (pss_one (ps_ret (pe_makeS M G hr (by rfl) T.mgC pass0 (pv 1)))), ?_⟩
    obtain ⟨dx, t, b1, r, h1, h2, h3, h4, h5⟩ := id hL
    obtain ⟨_, xs, e, hS, hT⟩ := h2.toTup
    cases e
    have l1 := hT.len
    rw [List.length_map] at l1
    have few := h5.few
    have lz : (tDs (ws.map List.reverse)).length ≤ 1000 := by rw [List.length_map, List.length_map]; omega
    refine ⟨.ref a, rfl, a, C, dx, _, _, rfl, h1, T.cl, T.nW, lf_works _ _ _, t, rfl, ⟨_, hS⟩, fun D hD => ?_⟩
    refine lc_tup (xs := xs) (fun i H' => Grow K H D (tDs (ws.map List.reverse)) i H') (.zero hD) (fun i H' _ h => Same.tup h.1 hS) (fun i x H' hx h => ?_) (fun H' h => ?_)
    · obtain ⟨o, c1, ho, rfl, hc1⟩ := hT.works hx
      refine ⟨rfl, .ref c1, rfl, c1, _, rfl, Same.tup h.1 hc1, fun p np => ?_⟩
      refine h.next hD lz (same_new np) (d := tD o.reverse) (by rw [List.getElem?_map, List.getElem?_map, ho]; rfl) (.ofInts ?_)
      rw [List.map_reverse]
      exact .of upd_same
    · obtain ⟨e2, acc, g1, g2⟩ := h.done (by rw [List.length_map, List.length_map, l1])
      exact ⟨.ref D, rfl, D, acc, rfl, .inr (.of g1), make_line (ws := ws.map List.reverse) g2 h5.back fun H3 x e3 nx hLx => q H3 x (e2.trans e3) (Same.free e2 nx) hLx⟩
end
end Sg
set_option Elab.async false
set_option linter.all false
set_option maxRecDepth 100000
set_option maxHeartbeats 4000000
namespace Sg
open PySem PySem.Spec PyProof.Rows L2 StX
/-- what a class has under a name: a def that keeps sp -/
structure Has (P : Program) (w : World) (K : PySem.W.Frag) (mg : Str → Option Value) (base : Heap) (k : Nat) (C : Addr) (n : Str) (f : Addr) (fd : FuncData) (ps : List Str) (sp : Sp) : Prop where
  ok : FnOk P w K mg base CX0 k f fd ps sp
  bi : Binds K fd ps []
  at_ : PySem.W.findIn K (.ref C) n = some (some (.ref f))
  fn : PySem.W.isFn K (.ref f) = true
/-- what the operators ask of the class beside their defs -/
structure Ops (K : PySem.W.Frag) (C : Addr) : Prop where
  sf : PySem.W.selfFirst K C = true
  rs : ∃ rc, PySem.W.findIn K (.ref C) "__rsub__" = some rc ∧ (rc = none ∨ ∃ g : Addr, rc = some (.ref g))
  is : ∃ fo, PySem.W.findIn K (.type "int") "__sub__" = some fo
  ir : ∃ ro, PySem.W.findIn K (.type "int") "__rsub__" = some ro
  nsub : PySem.W.subIn K (.type "int") (.ref C) = some false
  ne : PySem.W.findIn K (.ref C) "__ne__" = some (some (.builtin "object.__ne__"))
  ob : PySem.W.subIn K (.ref C) (.type "object") = some true
/-- Line's methods, as they are promised -/
structure Meths (P : Program) (w : World) (K : PySem.W.Frag) (mg : Str → Option Value) (base : Heap) (k : Nat) (C : Addr) : Prop where
  lc : LC K mg C
  li : LI K C
  op : Ops K C
  len : ∃ f fd, Has P w K mg base k C "__len__" f fd ["self"] (spLen K C)
  call : ∃ f fd, Has P w K mg base k C "__call__" f fd ["self", "one", "other"] (spCall K C) ∧ PySem.W.fnIn K f = true
  add : ∃ f fd, Has P w K mg base k C "__add__" f fd ["self", "other"] (spAdd K C)
  sub : ∃ f fd, Has P w K mg base k C "__sub__" f fd ["self", "other"] (spSub K C)
  neg : ∃ f fd, Has P w K mg base k C "__neg__" f fd ["self"] (spNeg K C)
  eq : ∃ f fd, Has P w K mg base k C "__eq__" f fd ["self", "other"] (spEq K C)
  works : ∃ p g fd, PropOf K C "works" p g ∧ FnOk P w K mg base CX0 k g fd ["self"] (getSp C "_works") ∧ Binds K fd ["self"] []
  init : ∃ f, Mk K C f ∧ FnR P w K mg base CX0 k f (spInit K C)
section
variable {X : Cx} {k : Nat} {C : Addr}
theorem Meths.cLen (M : Meths X.prog X.w X.K X.mg X.base k C) (hr : Room (k + 2) X.A) : CallR X (.builtin "len") (fun xs H Q => ∃ a ws, xs = [.ref a] ∧ LineAt X.K C H a ws ∧ Q (.int (ws.length : Nat)) H) := by
  obtain ⟨f, fd, h⟩ := M.len
  intro pins s σ H xs us Q I r q
  obtain ⟨a, ws, rfl, hL, q⟩ := q
  refine call_lenO h.ok (hr.mono (Nat.le_succ _)) h.bi h.at_ h.fn pins s σ H _ us Q I r ⟨a, rfl, hL.ins, a, ws, rfl, hL, ws.length, rfl, ?_, q⟩
  have := hL.good.few
  omega
def tWorks (K : PySem.W.Frag) (C : Addr) (te : TE) : TE := fun σ H Q => te σ H fun x H1 => ∃ a ws, x = .ref a ∧ LineAt K C H1 a ws ∧ ∀ t, Tp K H1 (.ref t) (.tuple (tDs ws)) → Q (.ref t) H1
theorem Meths.pWorks {K : PySem.W.Frag} {e : Expr} {te : TE} {pos : Pos} (M : Meths X.prog X.w K X.mg X.base k C) (hK : X.K = K) (hr : Room (k + 2) X.A) (he : PE X e te) (hab : attributeBase e "works" X.env (eval e X.env) = eval e X.env := by rfl) :
    PE X (.Attribute e "works" pos) (tWorks K C te) := by
  subst hK
  obtain ⟨p, g, fd, h1, h2, h3⟩ := M.works
  refine ⟨fun pins s σ H Q I h => attr_of hab (thn (he.run pins s σ H _ I h) fun u s1 ⟨x, H1, I1, rx, a, ws, ex, ea, q⟩ => ?_)⟩
  subst ex
  obtain rfl : u = Value.ref a := rx
  obtain ⟨dx, t, b, r, g1, g2, g3, g4, g5⟩ := ea
  exact getprop_ok I1 g1 M.lc.cl h1 h2 (hr.mono (Nat.le_succ _)) h3 .nil pass0 ⟨a, dx, _, _, rfl, g1, lf_works _ _ _, q t g2⟩
end
end Sg
set_option Elab.async false
set_option linter.all false
set_option maxRecDepth 100000
set_option maxHeartbeats 4000000
namespace Sg
open PySem PySem.Spec PyProof.Rows L2 StX
section
variable {P : Program} {w : World} {K : PySem.W.Frag} {mg : Str → Option Value} {base : Heap}
def spReqLine (K : PySem.W.Frag) (C : Addr) : Sp := fun vs H Q _ => ∃ (a : Addr) (ws : List (List Int)), vs = [.ref a] ∧ LineAt K C H a ws ∧ Q .non H
theorem ok_require_line {f C : Addr} {fd : FuncData} {k : Nat} (F : Fun K "require_line" "require_line" s_require_line f fd) (T : LC K mg C) (I : LI K C) (m1 : mg "isinstance" = none) :
    FnOk P w K mg base CX0 (k + 1) f fd ["thing"] (spReqLine K C) := by
  refine F.ok sc_require_line (fun vs H Q E h => ?_) (fun cdv A outer s H vs Q E hr h => ?_)
  · obtain ⟨a, ws, rfl, _⟩ := h; rfl
  · obtain ⟨a, ws, rfl, hL, q⟩ := h
    refine ⟨_, pss_one (ps_if (pt_not (pt_val (pe_callB call_isi (by rfl) m1 (by decide +kernel) (pa_cons (pv 0) (pa_cons (pe_glob (v := .ref C) (by rfl) T.mgC rfl) pa_nil))))) (pss_one ps_never) pss_nil), ?_⟩
    exact ⟨.ref a, rfl, .ref a, .ref C, .ref C, .ref C, true, rfl, .own C, isLine T.cl I hL, I.kit, true, rfl, iteF q⟩
end
end Sg
set_option Elab.async false
set_option linter.all false
set_option maxRecDepth 100000
set_option maxHeartbeats 4000000
namespace Sg
open PySem PySem.Spec PyProof.Rows L2 StX
/-- a whole number as it is written -/
def num (i : Int) : Str := toString i
def word (n : Nat) : Str := (("Line(" : Str) ++ num n) ++ (" works)" : Str)
section
variable {P : Program} {w : World} {K : PySem.W.Frag} {mg : Str → Option Value} {base : Heap}
/-! ### line[kind] -/
def spItem (K : PySem.W.Frag) (C : Addr) : Sp := fun vs H Q _ => ∃ (a : Addr) (ws : List (List Int)) (i : Nat) (x : List Int), vs = [.ref a, .int i] ∧ LineAt K C H a ws ∧ ws[i]? = some x ∧ ∀ c, SqT K H c (x.map V.int) → Q (.ref c) H
theorem ok_item {f f1 C : Addr} {fd fd1 : FuncData} {k : Nat} (F : Fun K "__getitem__" "Line.__getitem__" s_Line_getitem f fd) (T : LC K mg C)
    (G1 : FnOk P w K mg base CX0 k f1 fd1 ["line", "thing"] (spReqKind K C)) (kp1 : PySem.W.keepIn K (.ref f1) = true) (b1 : Binds K fd1 ["line", "thing"] []) (g1 : mg "require_kind" = some (.ref f1)) :
    FnOk P w K mg base CX0 (k + 1) f fd ["self", "at"] (spItem K C) := by
  refine F.ok sc_Line_getitem (fun vs H Q E h => ?_) (fun cdv A outer s H vs Q E hr h => ?_)
  · obtain ⟨a, ws, i, x, rfl, _⟩ := h; rfl
  · obtain ⟨a, ws, i, x, rfl, hL, hx, q⟩ := h
    refine ⟨_, pss_cons (ps_expr (pe_call G1 hr (by rfl) g1 kp1 b1 .nil pass0 (pa_cons (pv 0) (pa_cons (pv 1) pa_nil))))
      (pss_one (ps_ret (pe_ix ix_tup (pe_fld (pv 0) rfl) (pv 1) (fun _ _ => rfl)))), ?_⟩
    have hi := (List.getElem?_eq_some_iff.mp hx).1
    refine ⟨.ref a, rfl, .int i, rfl, a, ws, i, rfl, hL, hi, ?_⟩
    obtain ⟨dx, t, b, r, h1, h2, h3, h4, h5⟩ := hL
    obtain ⟨_, xs, e, hS, hT⟩ := h2.toTup
    cases e
    have l := hT.len
    rw [List.length_map] at l
    obtain ⟨y, hy⟩ : ∃ y, xs[i]? = some y := ⟨xs[i]'(by omega), List.getElem?_eq_getElem _⟩
    obtain ⟨x', c, hx', rfl, hc⟩ := hT.works hy
    obtain rfl : x = x' := Option.some.inj (hx.symm.trans hx')
    exact ⟨.ref a, rfl, a, C, dx, _, _, rfl, h1, T.cl, T.nW, lf_works _ _ _, .int i, rfl, t, xs, i, .ref c, rfl, rfl, hS, atI_nat hy, q c hc⟩
/-! ### repr -/
def spRepr (K : PySem.W.Frag) (C : Addr) : Sp := fun vs H Q _ => ∃ (a : Addr) (ws : List (List Int)), vs = [.ref a] ∧ LineAt K C H a ws ∧ Q (.str (word ws.length)) H
theorem word_join (n : Nat) (h1 : 1 ≤ n) (h2 : n ≤ 3) : ((Str.empty ++ ("Line(" : Str)) ++ num n) ++ (" works)" : Str) = word n := by
  have : n = 1 ∨ n = 2 ∨ n = 3 := by omega
  rcases this with rfl | rfl | rfl <;> decide +kernel
theorem num_len (n : Nat) (h1 : 1 ≤ n) (h2 : n ≤ 3) : ((Str.empty ++ ("Line(" : Str)) ++ num n).length ≤ 100 ∧ (((Str.empty ++ ("Line(" : Str)) ++ num n) ++ (" works)" : Str)).length ≤ 100 := by
  have : n = 1 ∨ n = 2 ∨ n = 3 := by omega
  rcases this with rfl | rfl | rfl <;> decide +kernel
theorem log_small (n : Nat) (h2 : n ≤ 3) : ((n : Int)).natAbs.log2 < 1920 := by
  have : n = 0 ∨ n = 1 ∨ n = 2 ∨ n = 3 := by omega
  rcases this with rfl | rfl | rfl | rfl <;> decide +kernel
theorem ok_repr {f C : Addr} {fd : FuncData} {k : Nat} (F : Fun K "__repr__" "Line.__repr__" s_Line_repr f fd) (T : LC K mg C) (m1 : mg "len" = none) :
    FnOk P w K mg base CX0 (k + 1) f fd ["self"] (spRepr K C) := by
  refine F.ok sc_Line_repr (fun vs H Q E h => ?_) (fun cdv A outer s H vs Q E hr h => ?_)
  · obtain ⟨a, ws, rfl, _⟩ := h; rfl
  · obtain ⟨a, ws, rfl, ⟨dx, t, b, r, h1, h2, h3, h4, h5⟩, q⟩ := h
    refine ⟨_, pss_one (ps_ret (pe_joined (.cons pe_str (.cons (pe_fmt (pe_callB call_len_seq (by rfl) m1 PySem.boot_len (pa_cons (pe_fld (pv 0) rfl) pa_nil))) (.cons pe_str .nil))))), ?_⟩
    obtain ⟨t', xs, e, hS, hT⟩ := h2.toTup
    cases e
    have l := hT.len
    rw [List.length_map] at l
    have big : 100 ≤ sizeLine := by rw [sizeLine_eq]; decide
    obtain ⟨z1, z2⟩ := num_len ws.length h5.least h5.few
    refine ⟨_, rfl, Nat.le_trans (by decide +kernel) big, ?_⟩
    refine ⟨.ref a, rfl, a, C, dx, _, _, rfl, h1, T.cl, T.nW, lf_works _ _ _, t, xs, rfl, .inr hS, ?_⟩
    rw [l]
    refine .inr ⟨((ws.length : Nat) : Int), rfl, log_small _ h5.few, ?_⟩
    refine ⟨_, rfl, Nat.le_trans z1 big, ?_⟩
    refine ⟨_, rfl, Nat.le_trans z2 big, ?_⟩
    have e := word_join ws.length h5.least h5.few
    show Q (.str (((Str.empty ++ ("Line(" : Str)) ++ num ws.length) ++ (" works)" : Str))) H
    rw [e]
    exact q
end
/-- the two more -/
structure Meths2 (P : Program) (w : World) (K : PySem.W.Frag) (mg : Str → Option Value) (base : Heap) (k : Nat) (C : Addr) : Prop where
  m : Meths P w K mg base k C
  item : ∃ f fd, Has P w K mg base k C "__getitem__" f fd ["self", "at"] (spItem K C) ∧ PySem.W.fnIn K f = true
  rep : ∃ f fd, Has P w K mg base k C "__repr__" f fd ["self"] (spRepr K C)
end Sg
set_option Elab.async false
set_option linter.all false
set_option maxRecDepth 100000
set_option maxHeartbeats 4000000
namespace Sg
namespace Wr
open PySem PySem.Spec PyProof.Rows L2 StX
open TL (tl tl_append numL)
theorem snocI {α : Type} {P : List α → Prop} (nil : P []) (snoc : ∀ l a, P l → P (l ++ [a])) (l : List α) : P l := by
  rw [← List.reverse_reverse l]
  generalize l.reverse = m
  induction m with
  | nil => exact nil
  | cons a m ih => rw [List.reverse_cons]; exact snoc _ a ih
/-! ## items as they are written -/
def dashS : Str := ("-" : Str)
def gapS : Str := (" " : Str)
def partS (x : Int) : Str := if x = -1 then dashS else num x
def textS (l : List Int) : Str := Txt.join gapS (l.map partS)
theorem tl_numI {x : Int} (h : 0 ≤ x) : tl (num x) = numL x.toNat := by
  obtain ⟨n, rfl⟩ : ∃ n : Nat, x = n := ⟨x.toNat, by omega⟩
  exact TL.tl_num n
theorem tl_gap : tl gapS = [32] := by decide +kernel
theorem part_num {x : Int} (h : 0 ≤ x) : partS x = num x := by
  unfold partS
  rw [if_neg (by omega)]
theorem part_dash : partS (-1) = dashS := by
  unfold partS
  rw [if_pos rfl]
theorem part_len {x : Int} (h : -1 ≤ x) (h2 : x ≤ 9) : (partS x).length = 1 := by
  rcases (show x = -1 ∨ 0 ≤ x by omega) with rfl | h
  · decide +kernel
  · rw [part_num h, TL.len_tl, tl_numI h, TL.numL_lt (by omega)]
    rfl
theorem joinL_snoc (S p : List Nat) : ∀ l : List (List Nat), TL.joinL S (l ++ [p]) = TL.joinL S l ++ ((if 0 < l.length then S else []) ++ p)
  | [] => rfl
  | [a] => rfl
  | a :: b :: r => by
    show a ++ (S ++ TL.joinL S (b :: r ++ [p])) = a ++ (S ++ TL.joinL S (b :: r)) ++ (S ++ p)
    rw [joinL_snoc S p (b :: r), if_pos (by rw [List.length_cons]; omega)]
    simp only [List.append_assoc]
theorem tl_text (l : List Int) : tl (textS l) = TL.joinL [32] ((l.map partS).map tl) := by
  unfold textS
  rw [TL.join_eq, TL.tl_join, tl_gap]
theorem text_snoc (l : List Int) (x : Int) : textS (l ++ [x]) = textS l ++ (if 0 < l.length then gapS else ("" : Str)) ++ partS x := by
  refine TL.ext_tl ?_
  rw [tl_append, tl_append, tl_text, tl_text, List.map_append, List.map_append]
  show TL.joinL [32] ((l.map partS).map tl ++ [tl (partS x)]) = _
  rw [joinL_snoc, List.length_map, List.length_map]
  split
  · rw [tl_gap]; simp only [List.append_assoc]
  · show _ = TL.joinL [32] ((l.map partS).map tl) ++ [] ++ tl (partS x)
    simp only [List.append_assoc]
theorem text_len : ∀ (l : List Int), (∀ x ∈ l, -1 ≤ x ∧ x ≤ 9) → (textS l).length ≤ 2 * l.length := by
  refine snocI (fun _ => by decide +kernel) fun l x ih h => ?_
  · have h1 := ih fun y hy => h y (List.mem_append.mpr (.inl hy))
    have hx := h x (List.mem_append.mpr (.inr (List.mem_singleton.mpr rfl)))
    have h2 := part_len hx.1 hx.2
    rw [text_snoc, TL.len_tl, tl_append, tl_append, List.length_append, List.length_append, ← TL.len_tl, ← TL.len_tl, ← TL.len_tl, h2, List.length_append]
    have h3 : (if 0 < l.length then gapS else ("" : Str)).length ≤ 1 := by split <;> decide +kernel
    show _ ≤ 2 * (l.length + 1)
    omega
/-! ## texts shown -/
theorem _root_.Sg.Small.str {x : Str} {n b : Nat} (h1 : (x.cps.toList.all fun c => decide (c < 16 ^ 8)) = true) (h2 : x.cps.size ≤ b) (h3 : (PyData.str x).canLay0 = true) : Small (.str x) n b :=
  ⟨by simp only [PyData.showable], by simp only [PyData.hasDict], by simp only [PyData.depth]; exact Nat.zero_le _, by simp only [PyData.leavesShort]; exact h1, by simp only [PyData.bulk]; exact h2, h3⟩
end Wr
end Sg
set_option Elab.async false
set_option linter.all false
set_option maxRecDepth 100000
set_option maxHeartbeats 4000000
namespace Sg
namespace Wr
open PySem PySem.Spec PyProof.Rows L2 StX
theorem cLenK {X : Cx} {K : PySem.W.Frag} {k : Nat} {C : Addr} (M : Meths X.prog X.w K X.mg X.base k C) (hK : X.K = K) (hr : Room (k + 2) X.A) : CallR X (.builtin "len") (fun xs H Q => ∃ a ws, xs = [.ref a] ∧ LineAt K C H a ws ∧ Q (.int (ws.length : Nat)) H) := by
  subst hK
  exact M.cLen hr
/-- a lap of a line of n works -/
structure GoodLap (n : Nat) (lp : List Int) : Prop where
  pos : 1 ≤ lp.length
  most : lp.length ≤ 900
  items : ∀ x ∈ lp, -1 ≤ x ∧ x < n
section
variable {P : Program} {w : World} {K : PySem.W.Frag} {mg : Str → Option Value} {base : Heap}
/-! ### is_lap, require_lap -/
def spIsLap (K : PySem.W.Frag) (C : Addr) : Sp := fun vs H Q _ => ∃ (a b : Addr) (ws : List (List Int)) (lp : List Int), vs = [.ref a, .ref b] ∧ LineAt K C H a ws ∧ SqT K H b (lp.map V.int) ∧ GoodLap ws.length lp ∧ ∀ H', Same H H' → Q (.bl true) H'
theorem ok_is_lap {f f1 C : Addr} {fd fd1 : FuncData} {k : Nat} (F : Fun K "is_lap" "is_lap" s_is_lap f fd) (M : Meths2 P w K mg base k C) (hN : ∃ t, mg "NOTHING" = some (.int (-1) t))
    (G1 : FnOk P w K mg base CX0 (k + 2) f1 fd1 ["thing", "least", "most"] spIsBetween) (kp1 : PySem.W.keepIn K (.ref f1) = true) (b1 : Binds K fd1 ["thing", "least", "most"] []) (g1 : mg "is_between" = some (.ref f1))
    (m1 : mg "isinstance" = none) (m2 : mg "tuple" = none) (m3 : mg "len" = none) (m4 : mg "all" = none) : FnOk P w K mg base CX0 (k + 3) f fd ["line", "thing"] (spIsLap K C) := by
  obtain ⟨tN, nN⟩ := hN
  refine F.ok sc_is_lap (fun vs H Q E h => ?_) (fun cdv A outer s H vs Q E hr h => ?_)
  · obtain ⟨a, b, ws, lp, rfl, _⟩ := h; rfl
  · obtain ⟨a, b, ws, lp, rfl, hL, hS, hg, q⟩ := h
    refine ⟨_, pss_cons (ps_if (PW.pt (pw_or (pt_not (pt_val (pe_callB call_isi (by rfl) m1 (by decide +kernel) (pa_cons (pv 1) (pa_cons (pe_bltn (v := .ty "tuple") (by rfl) m2 (by decide +kernel) rfl) pa_nil)))))
        (pw_or1 (pt_cmpR op_eq (pe_callB call_len_seq (by rfl) m3 PySem.boot_len (pa_cons (pv 1) pa_nil)) pe_int (nomark _))))) (pss_one (ps_ret pe_bl)) pss_nil)
      (pss_one (ps_ret (pe_callB (cr_all rfl) (by rfl) m4 (by decide +kernel) (pa_cons
          (pe_lc (own := [("item", 2)]) (g := gName 2) (tt := tYes) rfl sc_is_lap.nd (pi_tup (pv 1)) (blkOk_by (N := ["line", "thing", "item"]) (sc := defScope s_is_lap) (by decide +kernel))
            (fun _ _ _ _ _ => pg_name (i := 2) sc_is_lap.nd rfl (Or.inl rfl)) (fun _ _ _ _ _ => pts_nil)
            (fun _ _ _ _ _ => pe_call G1 hr (by rfl) g1 kp1 b1 .nil pass0 (pa_cons (pv 2) (pa_cons (pe_glob (v := .int (-1)) (by rfl) nN ⟨_, rfl⟩) (pa_cons (pe_op op_sub (pe_callB (cLenK (K := K) M.m rfl hr) (by rfl) m3 PySem.boot_len (pa_cons (pv 0) pa_nil)) pe_int) pa_nil))))) pa_nil)))), ?_⟩
    have ll : (lp.map V.int).length = lp.length := List.length_map _
    have l1 := hg.pos
    have l2 := hg.most
    refine ⟨.ref b, rfl, .ref b, .ty "tuple", _, _, true, rfl, .ty _, tyT hS, kit_ty (by decide +kernel), true, rfl, iteF ?_⟩
    refine ⟨.ref b, rfl, b, _, rfl, .inr hS, rfl, ?_⟩
    rw [show decide (V.int (((lp.map V.int).length : Nat) : Int) = V.int 0) = false from decide_eq_false fun z => by have := V.int.inj z; omega]
    refine ⟨_, rfl, iteF ?_⟩
    refine ⟨.ref b, rfl, b, rfl, ⟨_, hS⟩, fun D hD => ?_⟩
    refine lc_tup (xs := lp.map V.int) (fun i H' => Same H H' ∧ H' D = some (.lst ((List.replicate i true).map V.bl))) ⟨same_new hD, upd_same⟩ (fun i H' _ h => Same.tup h.1 hS) (fun i x H' hx h => ?_) (fun H' h => ?_)
    · rw [List.getElem?_map] at hx
      obtain ⟨z, hz, rfl⟩ := Option.map_eq_some_iff.mp hx
      have hi := (List.getElem?_eq_some_iff.mp hz).1
      obtain ⟨z1, z2⟩ := hg.items z (List.mem_of_getElem? hz)
      refine ⟨rfl, .int z, rfl, .ref a, rfl, a, ws, rfl, hL.stay (.of h.1), _, 1, rfl, rfl, z, -1, (ws.length : Nat) - 1, rfl, ?_⟩
      rw [decide_eq_true (show (-1 : Int) ≤ z by omega), decide_eq_true (show z ≤ (ws.length : Nat) - 1 by omega)]
      refine ⟨_, h.2, ?_, fun y o e => ?_, ?_⟩
      · rw [List.length_map, List.length_replicate]
        exact small1000 (by omega)
      · rw [upd_ne (ne_of_none e hD)]
        exact h.1 _ _ e
      · rw [upd_same, List.replicate_succ', List.map_append]
        rfl
    · have hall : (List.replicate (lp.map V.int).length true).all id = true := by simp
      refine ⟨D, _, rfl, .of h.2, ?_⟩
      rw [hall]
      exact q H' h.1
def spReqLap (K : PySem.W.Frag) (C : Addr) : Sp := fun vs H Q _ => ∃ (a b : Addr) (ws : List (List Int)) (lp : List Int), vs = [.ref a, .ref b] ∧ LineAt K C H a ws ∧ SqT K H b (lp.map V.int) ∧ GoodLap ws.length lp ∧ ∀ H', Same H H' → Q .non H'
theorem ok_require_lap {f f1 f2 C : Addr} {fd fd1 fd2 : FuncData} {k : Nat} (F : Fun K "require_lap" "require_lap" s_require_lap f fd)
    (G1 : FnOk P w K mg base CX0 k f1 fd1 ["thing"] (spReqLine K C)) (kp1 : PySem.W.keepIn K (.ref f1) = true) (b1 : Binds K fd1 ["thing"] []) (g1 : mg "require_line" = some (.ref f1))
    (G2 : FnOk P w K mg base CX0 k f2 fd2 ["line", "thing"] (spIsLap K C)) (kp2 : PySem.W.keepIn K (.ref f2) = true) (b2 : Binds K fd2 ["line", "thing"] []) (g2 : mg "is_lap" = some (.ref f2)) :
    FnOk P w K mg base CX0 (k + 1) f fd ["line", "thing"] (spReqLap K C) := by
  refine F.ok sc_require_lap (fun vs H Q E h => ?_) (fun cdv A outer s H vs Q E hr h => ?_)
  · obtain ⟨a, b, ws, lp, rfl, _⟩ := h; rfl
  · obtain ⟨a, b, ws, lp, rfl, hL, hS, hg, q⟩ := h
    refine ⟨_, pss_cons (ps_expr (pe_call G1 hr (by rfl) g1 kp1 b1 .nil pass0 (pa_cons (pv 0) pa_nil)))
      (pss_one (ps_if (pt_not (pt_val (pe_call G2 hr (by rfl) g2 kp2 b2 .nil pass0 (pa_cons (pv 0) (pa_cons (pv 1) pa_nil))))) (pss_one ps_never) pss_nil)), ?_⟩
    exact ⟨.ref a, rfl, a, ws, rfl, hL, .ref a, rfl, .ref b, rfl, a, b, ws, lp, rfl, hL, hS, hg, fun H' e => ⟨true, rfl, iteF (q H' e)⟩⟩
end
end Wr
end Sg
set_option Elab.async false
set_option linter.all false
set_option maxRecDepth 100000
set_option maxHeartbeats 4000000
namespace Sg
namespace Wr
open PySem PySem.Spec PyProof.Rows L2 StX
open TL (tl tl_append numL)
theorem parts_sum : ∀ (l : List Int), (∀ x ∈ l, -1 ≤ x ∧ x ≤ 9) → ((l.map partS).map (·.length)).sum = l.length
  | [], _ => rfl
  | x :: r, h => by
    have hx := h x List.mem_cons_self
    rw [List.map_cons, List.map_cons, List.sum_cons, parts_sum r fun y hy => h y (List.mem_cons_of_mem _ hy), part_len hx.1 hx.2, List.length_cons]
    omega
section
variable {P : Program} {w : World} {K : PySem.W.Frag} {mg : Str → Option Value} {base : Heap}
/-! ### _items_text -/
def spItems (K : PySem.W.Frag) : Sp := fun vs H Q _ => ∃ (a : Addr) (ns : List Int), vs = [.ref a] ∧ SqT K H a (ns.map V.int) ∧ ns.length ≤ 1000 ∧ (∀ x ∈ ns, -1 ≤ x ∧ x ≤ 9) ∧ ∀ H', Same H H' → Q (.str (textS ns)) H'
theorem ok_items_text {f : Addr} {fd : FuncData} {k : Nat} (F : Fun K "_items_text" "_items_text" s_items_text f fd) (hN : ∃ t, mg "NOWHERE" = some (.int (-1) t)) (m1 : mg "str" = none) :
    FnOk P w K mg base CX0 (k + 1) f fd ["items"] (spItems K) := by
  obtain ⟨tN, nN⟩ := hN
  refine F.ok sc_items_text (fun vs H Q E h => ?_) (fun cdv A outer s H vs Q E hr h => ?_)
  · obtain ⟨a, ns, rfl, _⟩ := h; rfl
  · obtain ⟨a, ns, rfl, hS, hl, hi, q⟩ := h
    refine ⟨_, pss_one (ps_ret (pe_join pe_str (pe_lc (own := [("item", 1)]) (g := gName 1) (tt := tYes) rfl sc_items_text.nd (pi_tup (pv 0)) (blkOk_by (N := ["items", "item"]) (sc := defScope s_items_text) (by decide +kernel))
        (fun _ _ _ _ _ => pg_name (i := 1) sc_items_text.nd rfl (Or.inl rfl)) (fun _ _ _ _ _ => pts_nil)
        (fun _ _ _ _ _ => pe_ifExp (pt_cmpR op_eq (pv 1) (pe_glob (v := .int (-1)) (by rfl) nN ⟨_, rfl⟩) (nomark _)) pe_str (pe_callTy call_str_int (by rfl) m1 (by decide +kernel) (pa_cons (pv 1) pa_nil)))))), ?_⟩
    refine ⟨⟨_, rfl⟩, .ref a, rfl, a, rfl, ⟨_, hS⟩, fun D hD => ?_⟩
    refine lc_tup (xs := ns.map V.int) (fun i H' => Same H H' ∧ H' D = some (.lst (((ns.take i).map partS).map V.str))) ⟨same_new hD, upd_same⟩ (fun i H' _ h => Same.tup h.1 hS) (fun i x H' hx h => ?_) (fun H' h => ?_)
    · rw [List.getElem?_map] at hx
      obtain ⟨z, hz, rfl⟩ := Option.map_eq_some_iff.mp hx
      have hin := (List.getElem?_eq_some_iff.mp hz).1
      obtain ⟨z1, z2⟩ := hi z (List.mem_of_getElem? hz)
      have fin : ∀ u : Str, u = partS z → ∃ acc, H' D = some (.lst acc) ∧ acc.length < sizeLine ∧ (Same H (L2.upd H' D (.lst (acc ++ [V.str u]))) ∧ (L2.upd H' D (.lst (acc ++ [V.str u]))) D = some (.lst (((ns.take (i + 1)).map partS).map V.str))) := by
        rintro _ rfl
        refine ⟨_, h.2, ?_, fun y o e => ?_, ?_⟩
        · rw [List.length_map, List.length_map, List.length_take]
          exact small1000 (by omega)
        · rw [upd_ne (ne_of_none e hD)]
          exact h.1 _ _ e
        · rw [upd_same, List.take_add_one, hz, List.map_append, List.map_append]
          rfl
      refine ⟨rfl, .int z, rfl, rfl, _, rfl, ite2 (fun e => ?_) (fun e => ?_)⟩
      · have hc : z = -1 := V.int.inj (of_decide_eq_true e)
        subst hc
        exact fin _ (part_dash).symm
      · have hc : z ≠ -1 := fun c => e (by rw [c]; exact decide_eq_true rfl)
        refine ⟨.int z, rfl, z, rfl, ?_, fin _ (part_num (by omega)).symm⟩
        have : z.natAbs ≤ 9 := by omega
        have := (Nat.log2_le_self z.natAbs)
        omega
    · rw [List.length_map, List.take_length] at h
      refine ⟨_, D, ns.map partS, rfl, rfl, .inl (.of h.2), ?_, q H' h.1⟩
      rw [parts_sum ns hi, List.length_map]
      have : gapS.length = 1 := by decide +kernel
      show ns.length + ns.length * gapS.length ≤ 16777216
      rw [this]
      omega
/-! ### work_text -/
def spWorkText (K : PySem.W.Frag) : Sp := fun vs H Q _ => ∃ (a : Addr) (ns : List Int), vs = [.ref a] ∧ SqT K H a (ns.map V.int) ∧ IsWork ns ∧ ∀ H', Same H H' → Q (.str (textS ns)) H'
theorem ok_work_text {f f1 f2 : Addr} {fd fd1 fd2 : FuncData} {k : Nat} (F : Fun K "work_text" "work_text" s_work_text f fd)
    (G1 : FnOk P w K mg base CX0 k f1 fd1 ["thing"] (spReq K)) (kp1 : PySem.W.keepIn K (.ref f1) = true) (b1 : Binds K fd1 ["thing"] []) (g1 : mg "require_work" = some (.ref f1))
    (G2 : FnOk P w K mg base CX0 k f2 fd2 ["items"] (spItems K)) (kp2 : PySem.W.keepIn K (.ref f2) = true) (b2 : Binds K fd2 ["items"] []) (g2 : mg "_items_text" = some (.ref f2)) :
    FnOk P w K mg base CX0 (k + 1) f fd ["work"] (spWorkText K) := by
  refine F.ok sc_work_text (fun vs H Q E h => ?_) (fun cdv A outer s H vs Q E hr h => ?_)
  · obtain ⟨a, ns, rfl, _⟩ := h; rfl
  · obtain ⟨a, ns, rfl, hS, hw, q⟩ := h
    refine ⟨_, pss_cons (ps_expr (pe_call G1 hr (by rfl) g1 kp1 b1 .nil pass0 (pa_cons (pv 0) pa_nil))) (pss_one (ps_ret (pe_call G2 hr (by rfl) g2 kp2 b2 .nil pass0 (pa_cons (pv 0) pa_nil)))), ?_⟩
    refine ⟨.ref a, rfl, a, ns, rfl, hS, hw, fun H1 e1 => ?_⟩
    exact ⟨.ref a, rfl, a, ns, rfl, Same.tup e1 hS, by have := hw.most; omega, hw.items, fun H2 e2 => q _ (e1.trans e2)⟩
end
end Wr
end Sg
set_option Elab.async false
set_option linter.all false
set_option maxRecDepth 100000
set_option maxHeartbeats 4000000
namespace Sg
namespace Wr
open PySem PySem.Spec PyProof.Rows L2 StX
section
variable {P : Program} {w : World} {K : PySem.W.Frag} {mg : Str → Option Value} {base : Heap}
/-! ### lap_text, read_lap -/
def spLapText (K : PySem.W.Frag) (C : Addr) : Sp := fun vs H Q _ => ∃ (a b : Addr) (ws : List (List Int)) (lp : List Int), vs = [.ref a, .ref b] ∧ LineAt K C H a ws ∧ SqT K H b (lp.map V.int) ∧ GoodLap ws.length lp ∧ ∀ H', Same H H' → Q (.str (textS lp)) H'
theorem GoodLap.low {n : Nat} {lp : List Int} (h : GoodLap n lp) (hn : n ≤ 3) : ∀ x ∈ lp, -1 ≤ x ∧ x ≤ 9 := fun x hx => by have := h.items x hx; omega
theorem GoodLap.ne {n : Nat} {lp : List Int} (h : GoodLap n lp) : lp ≠ [] := fun z => by
  have := h.pos
  rw [z] at this
  exact absurd this (by decide)
theorem ok_lap_text {f f1 f2 C : Addr} {fd fd1 fd2 : FuncData} {k : Nat} (F : Fun K "lap_text" "lap_text" s_lap_text f fd)
    (G1 : FnOk P w K mg base CX0 k f1 fd1 ["line", "thing"] (spReqLap K C)) (kp1 : PySem.W.keepIn K (.ref f1) = true) (b1 : Binds K fd1 ["line", "thing"] []) (g1 : mg "require_lap" = some (.ref f1))
    (G2 : FnOk P w K mg base CX0 k f2 fd2 ["items"] (spItems K)) (kp2 : PySem.W.keepIn K (.ref f2) = true) (b2 : Binds K fd2 ["items"] []) (g2 : mg "_items_text" = some (.ref f2)) :
    FnOk P w K mg base CX0 (k + 1) f fd ["line", "lap"] (spLapText K C) := by
  refine F.ok sc_lap_text (fun vs H Q E h => ?_) (fun cdv A outer s H vs Q E hr h => ?_)
  · obtain ⟨a, b, ws, lp, rfl, _⟩ := h; rfl
  · obtain ⟨a, b, ws, lp, rfl, hL, hS, hg, q⟩ := h
    refine ⟨_, pss_cons (ps_expr (pe_call G1 hr (by rfl) g1 kp1 b1 .nil pass0 (pa_cons (pv 0) (pa_cons (pv 1) pa_nil)))) (pss_one (ps_ret (pe_call G2 hr (by rfl) g2 kp2 b2 .nil pass0 (pa_cons (pv 1) pa_nil)))), ?_⟩
    refine ⟨.ref a, rfl, .ref b, rfl, a, b, ws, lp, rfl, hL, hS, hg, fun H1 e1 => ?_⟩
    exact ⟨.ref b, rfl, b, lp, rfl, Same.tup e1 hS, by have := hg.most; omega, hg.low hL.good.few, fun H2 e2 => q _ (e1.trans e2)⟩
end
end Wr
end Sg
set_option Elab.async false
set_option linter.all false
set_option maxRecDepth 100000
set_option maxHeartbeats 4000000
namespace Sg
namespace Wr
open PySem PySem.Spec PyProof.Rows L2 StX
/-! ## plans -/
abbrev startD (s : Int × Nat) : PyData := .tuple [.int s.1, .int s.2]
abbrev planD (ps : List (Int × Nat)) : List PyData := ps.map startD
/-- the least tick that may follow the first i starts -/
def leastAt (ps : List (Int × Nat)) (i : Nat) : Int := match ps[i - 1]? with
  | none => 0
  | some s => if i = 0 then 0 else s.1 + 1
theorem leastAt_zero (ps : List (Int × Nat)) : leastAt ps 0 = 0 := by
  unfold leastAt
  split <;> rfl
theorem leastAt_succ {ps : List (Int × Nat)} {i : Nat} {s : Int × Nat} (h : ps[i]? = some s) : leastAt ps (i + 1) = s.1 + 1 := by
  unfold leastAt
  rw [Nat.add_sub_cancel, h]
  show (if i + 1 = 0 then (0 : Int) else s.1 + 1) = s.1 + 1
  rw [if_neg (Nat.succ_ne_zero i)]
/-- a plan of a line of n works -/
structure GoodP (n : Nat) (ps : List (Int × Nat)) : Prop where
  few : ps.length ≤ 60
  kinds : ∀ s ∈ ps, s.2 < n
  asc : ∀ (i : Nat) (s : Int × Nat), ps[i]? = some s → leastAt ps i ≤ s.1
section
variable {P : Program} {w : World} {K : PySem.W.Frag} {mg : Str → Option Value} {base : Heap}
def spReqLine (K : PySem.W.Frag) (C : Addr) : Sp := fun vs H Q _ => ∃ (a : Addr) (ws : List (List Int)), vs = [.ref a] ∧ LineAt K C H a ws ∧ Q .non H
theorem ok_require_line {f C : Addr} {fd : FuncData} {k : Nat} (F : Fun K "require_line" "require_line" s_require_line f fd) (T : LC K mg C) (I : LI K C) (m1 : mg "isinstance" = none) :
    FnOk P w K mg base CX0 (k + 1) f fd ["thing"] (spReqLine K C) := by
  refine F.ok sc_require_line (fun vs H Q E h => ?_) (fun cdv A outer s H vs Q E hr h => ?_)
  · obtain ⟨a, ws, rfl, _⟩ := h; rfl
  · obtain ⟨a, ws, rfl, hL, q⟩ := h
    refine ⟨_, pss_one (ps_if (pt_not (pt_val (pe_callB call_isi (by rfl) m1 (by decide +kernel) (pa_cons (pv 0) (pa_cons (pe_glob (v := .ref C) (by rfl) T.mgC rfl) pa_nil))))) (pss_one ps_never) pss_nil), ?_⟩
    exact ⟨.ref a, rfl, .ref a, .ref C, .ref C, .ref C, true, rfl, .own C, isLine T.cl I hL, I.kit, true, rfl, iteF q⟩
/-! ### _is_start, of a start -/
def spStart (K : PySem.W.Frag) (C : Addr) : Sp := fun vs H Q _ => ∃ (a b : Addr) (ws : List (List Int)) (t l : Int) (k : Nat), vs = [.ref a, .ref b, .int l] ∧ LineAt K C H a ws ∧ SqT K H b [.int t, .int k] ∧ l ≤ t ∧ k < ws.length ∧ Q (.bl true) H
theorem ok_is_start {f f1 f2 C : Addr} {fd fd1 fd2 : FuncData} {k : Nat} (F : Fun K "_is_start" "_is_start" s_is_start f fd)
    (G1 : FnOk P w K mg base CX0 k f1 fd1 ["thing"] spIsInt) (kp1 : PySem.W.keepIn K (.ref f1) = true) (b1 : Binds K fd1 ["thing"] []) (g1 : mg "is_int" = some (.ref f1))
    (G2 : FnOk P w K mg base CX0 k f2 fd2 ["line", "thing"] (spIsKind K C)) (kp2 : PySem.W.keepIn K (.ref f2) = true) (b2 : Binds K fd2 ["line", "thing"] []) (g2 : mg "is_kind" = some (.ref f2))
    (m1 : mg "isinstance" = none) (m2 : mg "tuple" = none) (m3 : mg "len" = none) : FnOk P w K mg base CX0 (k + 1) f fd ["line", "thing", "least"] (spStart K C) := by
  refine F.ok sc_is_start (fun vs H Q E h => ?_) (fun cdv A outer s H vs Q E hr h => ?_)
  · obtain ⟨a, b, ws, t, l, k, rfl, _⟩ := h; rfl
  · obtain ⟨a, b, ws, t, l, i, rfl, hL, hS, hl, hi, q⟩ := h
    refine ⟨_, pss_cons (ps_if (PW.pt (pw_or (pt_not (pt_val (pe_callB call_isi (by rfl) m1 (by decide +kernel) (pa_cons (pv 1) (pa_cons (pe_bltn (v := .ty "tuple") (by rfl) m2 (by decide +kernel) rfl) pa_nil)))))
        (pw_or1 (pt_cmpR op_ne (pe_callB call_len_seq (by rfl) m3 PySem.boot_len (pa_cons (pv 1) pa_nil)) pe_int (nomark _))))) (pss_one (ps_ret pe_bl)) pss_nil)
      (pss_one (ps_ret (pe_and (pe_call G1 hr (by rfl) g1 kp1 b1 .nil pass0 (pa_cons (pe_ix ix_tup (pv 1) pe_int (fun _ _ => rfl)) pa_nil))
        (pe_and (pe_cmpR op_ge (pe_ix ix_tup (pv 1) pe_int (fun _ _ => rfl)) (pv 2) (nomark _))
          (pe_one (pe_call G2 hr (by rfl) g2 kp2 b2 .nil pass0 (pa_cons (pv 0) (pa_cons (pe_ix ix_tup (pv 1) pe_int (fun _ _ => rfl)) pa_nil)))))))), ?_⟩
    refine ⟨.ref b, rfl, .ref b, .ty "tuple", _, _, true, rfl, .ty _, tyT hS, kit_ty (by decide +kernel), true, rfl, iteF ?_⟩
    refine ⟨.ref b, rfl, b, _, rfl, .inr hS, rfl, ?_⟩
    rw [show decide (V.int (([V.int t, V.int (i : Nat)].length : Nat) : Int) = V.int 2) = true from rfl]
    refine ⟨false, rfl, iteF ?_⟩
    refine ⟨.ref b, rfl, b, _, 0, .int t, rfl, rfl, hS, atI0, t, rfl, true, rfl, iteT ?_⟩
    refine ⟨.ref b, rfl, b, _, 0, .int t, rfl, rfl, hS, atI0, .int l, rfl, t, l, rfl, rfl, ?_⟩
    refine ⟨decide (l ≤ t), rfl, ?_⟩
    rw [decide_eq_true hl]
    refine iteT ?_
    refine ⟨.ref a, rfl, .ref b, rfl, b, _, 1, .int (i : Nat), rfl, rfl, hS, atI1, a, ws, i, rfl, hL, ?_⟩
    rw [decide_eq_true (show (0 : Int) ≤ i by omega), decide_eq_true (show (i : Int) ≤ (ws.length : Nat) - 1 by omega)]
    exact q
/-! ### is_plan, of a plan -/
def spIsPlan (K : PySem.W.Frag) (C : Addr) : Sp := fun vs H Q _ => ∃ (a b : Addr) (ws : List (List Int)) (ps : List (Int × Nat)), vs = [.ref a, .ref b] ∧ LineAt K C H a ws ∧ Tp K H (.ref b) (.tuple (planD ps)) ∧ GoodP ws.length ps ∧ Q (.bl true) H
theorem ok_is_plan {f f1 f2 C : Addr} {fd fd1 fd2 : FuncData} {k : Nat} (F : Fun K "is_plan" "is_plan" s_is_plan f fd) (hM : ∃ t, mg "MOST_STARTS" = some (.int 60 t))
    (G1 : FnOk P w K mg base CX0 k f1 fd1 ["thing"] (spReqLine K C)) (kp1 : PySem.W.keepIn K (.ref f1) = true) (b1 : Binds K fd1 ["thing"] []) (g1 : mg "require_line" = some (.ref f1))
    (G2 : FnOk P w K mg base CX0 k f2 fd2 ["line", "thing", "least"] (spStart K C)) (kp2 : PySem.W.keepIn K (.ref f2) = true) (b2 : Binds K fd2 ["line", "thing", "least"] []) (g2 : mg "_is_start" = some (.ref f2))
    (m1 : mg "isinstance" = none) (m2 : mg "tuple" = none) (m3 : mg "len" = none) : FnOk P w K mg base CX0 (k + 1) f fd ["line", "thing"] (spIsPlan K C) := by
  obtain ⟨tM, nM⟩ := hM
  refine F.ok sc_is_plan (fun vs H Q E h => ?_) (fun cdv A outer s H vs Q E hr h => ?_)
  · obtain ⟨a, b, ws, ps, rfl, _⟩ := h; rfl
  · obtain ⟨a, b, ws, ps, rfl, hL, hP, hg, q⟩ := h
    refine ⟨_, pss_cons (ps_expr (pe_call G1 hr (by rfl) g1 kp1 b1 .nil pass0 (pa_cons (pv 0) pa_nil)))
      (pss_cons (ps_if (PW.pt (pw_or (pt_not (pt_val (pe_callB call_isi (by rfl) m1 (by decide +kernel) (pa_cons (pv 1) (pa_cons (pe_bltn (v := .ty "tuple") (by rfl) m2 (by decide +kernel) rfl) pa_nil)))))
        (pw_or1 (pt_cmpR op_gt (pe_callB call_len_seq (by rfl) m3 PySem.boot_len (pa_cons (pv 1) pa_nil)) (pe_glob (v := .int 60) (by rfl) nM ⟨_, rfl⟩) (nomark _))))) (pss_one (ps_ret pe_bl)) pss_nil)
      (pss_cons (ps_set (i := 2) sc_is_plan.nd rfl (.inl rfl) pe_int)
      (pss_cons (ps_for PassesOwn.never rfl (pi_tup (pv 1)) (pg_name (i := 3) sc_is_plan.nd rfl (.inl rfl))
        (pss_cons (ps_if (pt_not (pt_val (pe_call G2 hr (by rfl) g2 kp2 b2 .nil pass0 (pa_cons (pv 0) (pa_cons (pv 3) (pa_cons (pv 2) pa_nil)))))) (pss_one (ps_ret pe_bl)) pss_nil)
        (pss_one (ps_set (i := 2) sc_is_plan.nd rfl (.inl rfl) (pe_op op_add (pe_ix ix_tup (pv 3) pe_int (fun _ _ => rfl)) pe_int)))))
      (pss_one (ps_ret pe_bl))))), ?_⟩
    obtain ⟨_, xs, e, hS, hT⟩ := hP.toTup
    cases e
    have lx := hT.len
    rw [List.length_map] at lx
    have few := hg.few
    refine ⟨.ref a, rfl, a, ws, rfl, hL, ?_⟩
    refine ⟨.ref b, rfl, .ref b, .ty "tuple", _, _, true, rfl, .ty _, tyT hS, kit_ty (by decide +kernel), true, rfl, iteF ?_⟩
    refine ⟨.ref b, rfl, b, xs, rfl, .inr hS, _, 60, rfl, rfl, _, rfl, ?_⟩
    rw [show decide (((xs.length : Nat) : Int) > 60) = false from decide_eq_false (by omega)]
    refine iteF ?_
    refine ⟨.ref b, rfl, b, rfl, ⟨_, hS⟩, ?_⟩
    refine for_tup (xs := xs) (fun i σ H' => ∃ v3, σ = [some (.ref a), some (.ref b), some (.int (leastAt ps i)), v3] ∧ H' = H) ⟨none, by rw [leastAt_zero]; rfl, rfl⟩ (fun i σ H' _ h => by obtain ⟨_, _, rfl⟩ := h; exact hS) ?_ ?_
    · rintro i x σ H' hx ⟨v3, rfl, rfl⟩
      obtain ⟨d, hd, t⟩ := hT.at hx
      rw [List.getElem?_map] at hd
      obtain ⟨s, hs, rfl⟩ := Option.map_eq_some_iff.mp hd
      obtain ⟨c, cs, rfl, hc, ht⟩ := t.toTup
      obtain ⟨u, v, rfl⟩ : ∃ u v, cs = [u, v] := by
        have := ht.len
        match cs, this with
        | [u, v], _ => exact ⟨u, v, rfl⟩
      cases ht with
      | on t1 r =>
        cases r with
        | on t2 r2 =>
          cases t1
          cases t2
          refine ⟨.ref a, rfl, .ref c, rfl, .int (leastAt ps i), rfl, a, c, ws, s.1, leastAt ps i, s.2, rfl, hL, hc, hg.asc i s hs, hg.kinds s (List.mem_of_getElem? hs), true, rfl, iteF ?_⟩
          refine ⟨.ref c, rfl, c, _, 0, .int s.1, rfl, rfl, hc, atI0, s.1, 1, rfl, rfl, ?_⟩
          refine ⟨some (.ref c), ?_, rfl⟩
          rw [leastAt_succ hs]
          rfl
    · rintro σ H' ⟨v3, rfl, rfl⟩
      exact q
/-! ### require_plan, of a plan -/
def spReqPlan (K : PySem.W.Frag) (C : Addr) : Sp := fun vs H Q _ => ∃ (a b : Addr) (ws : List (List Int)) (ps : List (Int × Nat)), vs = [.ref a, .ref b] ∧ LineAt K C H a ws ∧ Tp K H (.ref b) (.tuple (planD ps)) ∧ GoodP ws.length ps ∧ Q .non H
theorem ok_require_plan {f f1 C : Addr} {fd fd1 : FuncData} {k : Nat} (F : Fun K "require_plan" "require_plan" s_require_plan f fd)
    (G1 : FnOk P w K mg base CX0 k f1 fd1 ["line", "thing"] (spIsPlan K C)) (kp1 : PySem.W.keepIn K (.ref f1) = true) (b1 : Binds K fd1 ["line", "thing"] []) (g1 : mg "is_plan" = some (.ref f1)) :
    FnOk P w K mg base CX0 (k + 1) f fd ["line", "thing"] (spReqPlan K C) := by
  refine F.ok sc_require_plan (fun vs H Q E h => ?_) (fun cdv A outer s H vs Q E hr h => ?_)
  · obtain ⟨a, b, ws, ps, rfl, _⟩ := h; rfl
  · obtain ⟨a, b, ws, ps, rfl, hL, hP, hg, q⟩ := h
    refine ⟨_, pss_one (ps_if (pt_not (pt_val (pe_call G1 hr (by rfl) g1 kp1 b1 .nil pass0 (pa_cons (pv 0) (pa_cons (pv 1) pa_nil))))) (pss_one ps_never) pss_nil), ?_⟩
    exact ⟨.ref a, rfl, .ref b, rfl, a, b, ws, ps, rfl, hL, hP, hg, true, rfl, iteF q⟩
end
end Wr
end Sg
set_option Elab.async false
set_option linter.all false
set_option maxRecDepth 100000
set_option maxHeartbeats 4000000
namespace Sg
namespace Wr
open PySem PySem.Spec PyProof.Rows L2 StX
open TL (tl tl_append numL)
/-! ## plans as they are written -/
def colS : Str := (":" : Str)
def noneS : Str := ("none" : Str)
def rowS : Str := ("\n" : Str)
theorem tl_col : tl colS = [58] := by decide +kernel
theorem tl_row : tl rowS = [10] := by decide +kernel
theorem tl_emp : tl (("" : Str)) = [] := by decide +kernel
def startS (s : Int × Nat) : Str := num s.1 ++ colS ++ num (s.2 : Nat)
def joinS (l : List Str) : Str := Txt.join gapS l
def planS (ps : List (Int × Nat)) : Str := if ps = [] then noneS else joinS (ps.map startS)
theorem tl_joinS (l : List Str) : tl (joinS l) = TL.joinL [32] (l.map tl) := by
  unfold joinS
  rw [TL.join_eq, TL.tl_join, tl_gap]
theorem join_snoc (l : List Str) (x : Str) : joinS (l ++ [x]) = joinS l ++ (if 0 < l.length then gapS else ("" : Str)) ++ x := by
  refine TL.ext_tl ?_
  rw [tl_append, tl_append, tl_joinS, tl_joinS, List.map_append]
  show TL.joinL [32] (l.map tl ++ [tl x]) = _
  rw [joinL_snoc, List.length_map]
  split
  · rw [tl_gap]; simp only [List.append_assoc]
  · rw [tl_emp]; simp only [List.append_assoc]
/-- the starts of a plan, small enough to be written -/
structure Sm (ps : List (Int × Nat)) : Prop where
  few : ps.length ≤ 60
  lo : ∀ s ∈ ps, 0 ≤ s.1
  hi : ∀ s ∈ ps, s.1 < 10 ^ 15
  kind : ∀ s ∈ ps, s.2 < 3
theorem tl_start {s : Int × Nat} : tl (startS s) = tl (num s.1) ++ [58] ++ tl (num (s.2 : Nat)) := by
  unfold startS
  rw [tl_append, tl_append, tl_col]
theorem num_len15 {x : Int} (h : 0 ≤ x) (h2 : x < 10 ^ 15) : (num x).length ≤ 15 := by
  rw [TL.len_tl, tl_numI h]
  have h15 : ((10 : Nat) ^ 15 : Nat) = 1000000000000000 := by decide
  have h15' : ((10 : Int) ^ 15 : Int) = 1000000000000000 := by decide
  exact TL.numL_len (by decide) (by omega)
theorem num_len1 {k : Nat} (h : k < 3) : (num (k : Nat)).length = 1 := by
  rw [TL.len_tl, tl_numI (by omega), TL.numL_lt (by omega)]
  rfl
theorem start_len {s : Int × Nat} (h : 0 ≤ s.1) (h2 : s.1 < 10 ^ 15) (hk : s.2 < 3) : (startS s).length ≤ 17 := by
  have a := num_len15 h h2
  have b := num_len1 hk
  rw [TL.len_tl, tl_start, List.length_append, List.length_append, ← TL.len_tl, ← TL.len_tl, b]
  show _ + 1 + 1 ≤ 17
  omega
theorem joinS_len : ∀ (l : List Str), (∀ x ∈ l, x.length ≤ 17) → (joinS l).length ≤ 18 * l.length := by
  refine snocI (fun _ => by decide +kernel) fun l x ih h => ?_
  have h1 := ih fun y hy => h y (List.mem_append.mpr (.inl hy))
  have h2 := h x (List.mem_append.mpr (.inr (List.mem_singleton.mpr rfl)))
  rw [join_snoc, TL.len_tl, tl_append, tl_append, List.length_append, List.length_append, ← TL.len_tl, ← TL.len_tl, ← TL.len_tl, List.length_append]
  have h3 : (if 0 < l.length then gapS else ("" : Str)).length ≤ 1 := by split <;> decide +kernel
  show _ ≤ 18 * (l.length + 1)
  omega
theorem Sm.take {ps : List (Int × Nat)} (h : Sm ps) (i : Nat) : Sm (ps.take i) :=
  ⟨by have := h.few; rw [List.length_take]; omega, fun s hs => h.lo s (List.mem_of_mem_take hs), fun s hs => h.hi s (List.mem_of_mem_take hs), fun s hs => h.kind s (List.mem_of_mem_take hs)⟩
theorem Sm.len {ps : List (Int × Nat)} (h : Sm ps) : (joinS (ps.map startS)).length ≤ 1080 := by
  have := joinS_len (ps.map startS) fun x hx => by
    obtain ⟨s, hs, rfl⟩ := List.mem_map.mp hx
    exact start_len (h.lo s hs) (h.hi s hs) (h.kind s hs)
  have f := h.few
  rw [List.length_map] at this
  omega
/-- signs that can be shown -/
def Low (x : Str) : Prop := ∀ c ∈ tl x, c < 256
theorem Low.app {x y : Str} (h : Low x) (g : Low y) : Low (x ++ y) := fun c hc => by
  rw [tl_append] at hc
  rcases List.mem_append.mp hc with z | z
  · exact h c z
  · exact g c z
theorem Low.num {x : Int} (h : 0 ≤ x) : Low (num x) := fun c hc => by
  rw [tl_numI h] at hc
  have := TL.numL_digits _ c hc
  omega
theorem Low.col : Low colS := by intro c hc; rw [tl_col] at hc; rw [List.mem_singleton.mp hc]; decide
theorem Low.gap : Low gapS := by intro c hc; rw [tl_gap] at hc; rw [List.mem_singleton.mp hc]; decide
theorem Low.row : Low rowS := by intro c hc; rw [tl_row] at hc; rw [List.mem_singleton.mp hc]; decide
theorem Low.emp : Low (("" : Str)) := by intro c hc; rw [tl_emp] at hc; exact nomatch hc
theorem Low.none : Low noneS := by intro c hc; rw [show tl noneS = [110, 111, 110, 101] from by decide +kernel] at hc; revert c; decide
theorem Low.joinS : ∀ (l : List Str), (∀ x ∈ l, Low x) → Low (Sg.Wr.joinS l) := by
  refine snocI (fun _ => by intro c hc; rw [show Sg.Wr.joinS [] = ("" : Str) from rfl] at hc; exact Low.emp c hc) fun l x ih h => ?_
  have h1 := ih fun y hy => h y (List.mem_append.mpr (.inl hy))
  have h2 := h x (List.mem_append.mpr (.inr (List.mem_singleton.mpr rfl)))
  rw [join_snoc]
  refine (h1.app ?_).app h2
  split
  · exact Low.gap
  · exact Low.emp
theorem Sm.low {ps : List (Int × Nat)} (h : Sm ps) : Low (planS ps) := by
  unfold planS
  split
  · exact Low.none
  · refine Low.joinS _ fun x hx => ?_
    obtain ⟨s, hs, rfl⟩ := List.mem_map.mp hx
    exact ((Low.num (h.lo s hs)).app Low.col).app (Low.num (by omega))
/-! ## lines as they are written -/
def lineS (ws : List (List Int)) : Str := Txt.join ("" : Str) (ws.map fun w => textS w ++ rowS)
end Wr
end Sg
set_option Elab.async false
set_option linter.all false
set_option maxRecDepth 100000
set_option maxHeartbeats 4000000
namespace Sg
namespace Wr
open PySem PySem.Spec PyProof.Rows L2 StX
open TL (tl tl_append numL)
theorem log15 {x : Int} (h : 0 ≤ x) (h2 : x < 10 ^ 15) : x.natAbs.log2 < 1920 := by
  have h15 : ((10 : Int) ^ 15 : Int) = 1000000000000000 := by decide
  by_cases h0 : x.natAbs = 0
  · rw [h0]; decide
  · have : x.natAbs.log2 < 60 := (Nat.log2_lt h0).mpr (by have : (2 : Nat) ^ 60 = 1152921504606846976 := by decide
                                                          omega)
    omega
theorem start_join (s : Int × Nat) : ((Str.empty ++ num s.1) ++ colS) ++ num (s.2 : Nat) = startS s := by
  refine TL.ext_tl ?_
  rw [tl_append, tl_append, tl_append, tl_start, tl_col]
  rfl
section
variable {P : Program} {w : World} {K : PySem.W.Frag} {mg : Str → Option Value} {base : Heap}
/-! ### line_text -/
def spLineText (K : PySem.W.Frag) (C : Addr) : Sp := fun vs H Q _ => ∃ (a : Addr) (ws : List (List Int)), vs = [.ref a] ∧ LineAt K C H a ws ∧ ∀ H', Same H H' → Q (.str (lineS ws)) H'
theorem rows_sum : ∀ {ws : List (List Int)}, (∀ v ∈ ws, IsWork v) → ((ws.map fun v => textS v ++ rowS).map (·.length)).sum ≤ 121 * ws.length
  | [], _ => Nat.le_refl _
  | v :: r, h => by
    have i := rows_sum (ws := r) fun u hu => h u (List.mem_cons_of_mem _ hu)
    have hv := h v List.mem_cons_self
    have t := text_len v hv.items
    have m := hv.most
    rw [List.map_cons, List.map_cons, List.sum_cons, TL.len_tl, tl_append, List.length_append, ← TL.len_tl, tl_row]
    show _ + 1 + _ ≤ 121 * (r.length + 1)
    omega
theorem ok_line_text {f f1 f2 C : Addr} {fd fd1 fd2 : FuncData} {k : Nat} (F : Fun K "line_text" "line_text" s_line_text f fd) (M : Meths2 P w K mg base k C)
    (G1 : FnOk P w K mg base CX0 (k + 2) f1 fd1 ["thing"] (spReqLine K C)) (kp1 : PySem.W.keepIn K (.ref f1) = true) (b1 : Binds K fd1 ["thing"] []) (g1 : mg "require_line" = some (.ref f1))
    (G2 : FnOk P w K mg base CX0 (k + 2) f2 fd2 ["items"] (spItems K)) (kp2 : PySem.W.keepIn K (.ref f2) = true) (b2 : Binds K fd2 ["items"] []) (g2 : mg "_items_text" = some (.ref f2)) :
    FnOk P w K mg base CX0 (k + 3) f fd ["line"] (spLineText K C) := by
  refine F.ok sc_line_text (fun vs H Q E h => ?_) (fun cdv A outer s H vs Q E hr h => ?_)
  · obtain ⟨a, ws, rfl, _⟩ := h; rfl
  · obtain ⟨a, ws, rfl, hL, q⟩ := h
    refine ⟨_, pss_cons (ps_expr (pe_call G1 hr (by rfl) g1 kp1 b1 .nil pass0 (pa_cons (pv 0) pa_nil)))
      (pss_one (ps_ret (pe_join pe_str (pe_lc (own := [("work", 1)]) (g := gName 1) (tt := tYes) rfl sc_line_text.nd (pi_tup (M.m.pWorks (K := K) rfl hr (pv 0))) (blkOk_by (N := ["line", "work"]) (sc := defScope s_line_text) (by decide +kernel))
        (fun _ _ _ _ _ => pg_name (i := 1) sc_line_text.nd rfl (Or.inl rfl)) (fun _ _ _ _ _ => pts_nil)
        (fun _ _ _ _ _ => pe_op op_add_str (pe_call G2 hr (by rfl) g2 kp2 b2 .nil pass0 (pa_cons (pv 1) pa_nil)) pe_str))))), ?_⟩
    have hg := hL.good
    have few := hg.few
    have big : 1000000 ≤ sizeLine := by rw [sizeLine_eq]; decide
    refine ⟨.ref a, rfl, a, ws, rfl, hL, ⟨_, rfl⟩, .ref a, rfl, a, ws, rfl, hL, fun t hW => ?_⟩
    obtain ⟨_, xs, e, hS, hT⟩ := hW.toTup
    cases e
    have lx := hT.len
    rw [List.length_map] at lx
    refine ⟨t, rfl, ⟨_, hS⟩, fun D hD => ?_⟩
    refine lc_tup (xs := xs) (fun i H' => Same H H' ∧ H' D = some (.lst (((ws.take i).map fun v => textS v ++ rowS).map V.str))) ⟨same_new hD, upd_same⟩ (fun i H' _ h => Same.tup h.1 hS) (fun i x H' hx h => ?_) (fun H' h => ?_)
    · obtain ⟨x', c, hx', rfl, hc⟩ := hT.works hx
      have hk := hg.work x' (List.mem_of_getElem? hx')
      have hin := (List.getElem?_eq_some_iff.mp hx').1
      have tlen := text_len x' hk.items
      have m := hk.most
      refine ⟨rfl, .ref c, rfl, c, x', rfl, Same.tup h.1 hc, by omega, hk.items, fun H'' e2 => ?_⟩
      refine ⟨textS x', rowS, rfl, rfl, Nat.le_trans (by rw [show rowS.length = 1 from by decide +kernel]; omega) big, _, e2 _ _ h.2, ?_, fun y o e => ?_, ?_⟩
      · rw [List.length_map, List.length_map, List.length_take]
        exact small1000 (by omega)
      · rw [upd_ne (ne_of_none e hD)]
        exact e2 _ _ (h.1 _ _ e)
      · rw [upd_same, List.take_add_one, hx', List.map_append, List.map_append]
        rfl
    · rw [lx, List.take_length] at h
      refine ⟨_, D, _, rfl, rfl, .inl (.of h.2), ?_, q H' h.1⟩
      have s := rows_sum hg.work
      rw [show (("" : Str)).length = 0 from by decide +kernel, Nat.mul_zero]
      omega
/-! ### plan_text -/
def spPlanText (K : PySem.W.Frag) (C : Addr) : Sp := fun vs H Q _ => ∃ (a b : Addr) (ws : List (List Int)) (ps : List (Int × Nat)), vs = [.ref a, .ref b] ∧ LineAt K C H a ws ∧ Tp K H (.ref b) (.tuple (planD ps)) ∧ GoodP ws.length ps ∧ Sm ps ∧ ∀ H', Same H H' → Q (.str (planS ps)) H'
theorem starts_sum : ∀ {ps : List (Int × Nat)}, (∀ s ∈ ps, (startS s).length ≤ 17) → ((ps.map startS).map (·.length)).sum ≤ 17 * ps.length
  | [], _ => Nat.le_refl _
  | v :: r, h => by
    have i := starts_sum (ps := r) fun u hu => h u (List.mem_cons_of_mem _ hu)
    have hv := h v List.mem_cons_self
    rw [List.map_cons, List.map_cons, List.sum_cons, List.length_cons]
    omega
theorem ok_plan_text {f f1 C : Addr} {fd fd1 : FuncData} {k : Nat} (F : Fun K "plan_text" "plan_text" s_plan_text f fd) (hN : ∃ t, mg "NONE" = some (.str ("none" : Str) t))
    (G1 : FnOk P w K mg base CX0 k f1 fd1 ["line", "thing"] (spReqPlan K C)) (kp1 : PySem.W.keepIn K (.ref f1) = true) (b1 : Binds K fd1 ["line", "thing"] []) (g1 : mg "require_plan" = some (.ref f1)) :
    FnOk P w K mg base CX0 (k + 1) f fd ["line", "plan"] (spPlanText K C) := by
  obtain ⟨tN, nN⟩ := hN
  refine F.ok sc_plan_text (fun vs H Q E h => ?_) (fun cdv A outer s H vs Q E hr h => ?_)
  · obtain ⟨a, b, ws, ps, rfl, _⟩ := h; rfl
  · obtain ⟨a, b, ws, ps, rfl, hL, hP, hg, sm, q⟩ := h
    refine ⟨_, pss_cons (ps_expr (pe_call G1 hr (by rfl) g1 kp1 b1 .nil pass0 (pa_cons (pv 0) (pa_cons (pv 1) pa_nil))))
      (pss_one (ps_ret (pe_ifExp (pt_truth (pv 1) (fun _ => rfl)) (pe_join pe_str (pe_lc (own := [("tick", 2), ("kind", 3)]) (g := gTup K 2 (gCons (gName 2) (gCons (gName 3) gNil))) (tt := tYes) rfl sc_plan_text.nd (pi_tup (pv 1)) (blkOk_by (N := ["line", "plan", "tick", "kind"]) (sc := defScope s_plan_text) (by decide +kernel))
        (fun _ _ _ _ _ => pg_tup rfl (pgs_cons (pg_name (i := 2) sc_plan_text.nd rfl (Or.inl rfl)) (pgs_cons (pg_name (i := 3) sc_plan_text.nd rfl (Or.inl rfl)) pgs_nil))) (fun _ _ _ _ _ => pts_nil)
        (fun _ _ _ _ _ => pe_joined (.cons (pe_fmt (pv 2)) (.cons pe_str (.cons (pe_fmt (pv 3)) .nil)))))) (pe_glob (v := .str ("none" : Str)) (by rfl) nN ⟨_, rfl⟩)))), ?_⟩
    obtain ⟨_, xs, e, hS, hT⟩ := hP.toTup
    cases e
    have lx := hT.len
    rw [List.length_map] at lx
    have few := sm.few
    have big : 1000000 ≤ sizeLine := by rw [sizeLine_eq]; decide
    refine ⟨.ref a, rfl, .ref b, rfl, a, b, ws, ps, rfl, hL, hP, hg, ?_⟩
    refine ⟨.ref b, rfl, _, .inr (.inl ⟨xs, hS, rfl⟩), ite2 (fun e => ?_) (fun e => ?_)⟩
    · have ne : ps ≠ [] := by
        rintro rfl
        have : xs = [] := List.eq_nil_of_length_eq_zero lx
        rw [this] at e
        exact absurd e (by decide)
      refine ⟨⟨_, rfl⟩, .ref b, rfl, b, rfl, ⟨_, hS⟩, fun D hD => ?_⟩
      refine lc_tup (xs := xs) (te := fun σ H Q => tJs [tFmt (tVar 2), tC (.str (":" : Str)), tFmt (tVar 3)] Str.empty σ H fun out H1 => Q (.str out) H1) (fun i H' => Same H H' ∧ H' D = some (.lst (((ps.take i).map startS).map V.str))) ⟨same_new hD, upd_same⟩ (fun i H' _ h => Same.tup h.1 hS) (fun i x H' hx h => ?_) (fun H' h => ?_)
      · obtain ⟨dd, hdd, tt⟩ := hT.at hx
        rw [List.getElem?_map] at hdd
        obtain ⟨st, hs, rfl⟩ := Option.map_eq_some_iff.mp hdd
        obtain ⟨c, rfl, hc⟩ := Tp.toInts (ns := [st.1, (st.2 : Nat)]) tt
        have hm := List.mem_of_getElem? hs
        have h0 := sm.lo st hm
        have h1 := sm.hi st hm
        have h2 := sm.kind st hm
        have h15 : ((10 : Int) ^ 15 : Int) = 1000000000000000 := by decide
        have n15 := num_len15 h0 h1
        have n1 := num_len1 h2
        have l0 : (Str.empty ++ num st.1).length ≤ 15 := by rw [TL.len_tl, tl_append, List.length_append, ← TL.len_tl]; show 0 + (num st.1).length ≤ 15; omega
        have l1 : ((Str.empty ++ num st.1) ++ colS).length ≤ 16 := by rw [TL.len_tl, tl_append, List.length_append, ← TL.len_tl, tl_col]; show _ + 1 ≤ 16; omega
        have l2 : (((Str.empty ++ num st.1) ++ colS) ++ num (st.2 : Nat)).length ≤ 17 := by rw [start_join]; exact start_len h0 h1 h2
        refine ⟨c, _, rfl, Same.tup h.1 hc, rfl, _, _, rfl, _, _, rfl, rfl, rfl, ?_⟩
        refine ⟨.int st.1, rfl, .inr ⟨st.1, rfl, log15 h0 h1, _, rfl, Nat.le_trans (Nat.le_trans l0 (by omega)) big, ?_⟩⟩
        refine ⟨_, rfl, Nat.le_trans (Nat.le_trans l1 (by omega)) big, ?_⟩
        refine ⟨.int (st.2 : Nat), rfl, .inr ⟨(st.2 : Nat), rfl, log15 (by omega) (by rw [h15]; omega), _, rfl, Nat.le_trans (Nat.le_trans l2 (by omega)) big, ?_⟩⟩
        have hi := (List.getElem?_eq_some_iff.mp hs).1
        refine ⟨_, h.2, ?_, fun y o e => ?_, ?_⟩
        · rw [List.length_map, List.length_map, List.length_take]
          exact small1000 (by omega)
        · rw [upd_ne (ne_of_none e hD)]
          exact h.1 _ _ e
        · rw [upd_same, List.take_add_one, hs, List.map_append, List.map_append]
          show some (HO.lst (_ ++ [V.str (((Str.empty ++ num st.1) ++ colS) ++ num (st.2 : Nat))])) = _
          rw [start_join]
          rfl
      · rw [lx, List.take_length] at h
        refine ⟨_, D, _, rfl, rfl, .inl (.of h.2), ?_, ?_⟩
        · have s := starts_sum (ps := ps) fun s hs => start_len (sm.lo s hs) (sm.hi s hs) (sm.kind s hs)
          rw [List.length_map, show ((" " : Str)).length = 1 from by decide +kernel]
          omega
        · have := q H' h.1
          unfold planS at this
          rw [if_neg ne] at this
          exact this
    · have ee : ps = [] := by
        cases xs with
        | nil => exact List.eq_nil_of_length_eq_zero lx.symm
        | cons x r => exact absurd rfl e
      have := q H (fun _ _ h => h)
      unfold planS at this
      rw [if_pos ee] at this
      exact this
end
end Wr
end Sg
set_option Elab.async false
set_option linter.all false
set_option maxRecDepth 100000
set_option maxHeartbeats 4000000
namespace Sg
open PySem PySem.Spec PyProof.Rows L2 StX
/-! ## a text of an own thing, asked for within another text -/
theorem boundBy_own {M : Model} {A : Around} {E : Value → Shared → Prop} {s : Shared} {K : PySem.W.Frag} {x C f : Addr} {ox : Obj} {od : Option Obj} {name : Str} {last : Value → List Value → Sem Value} {Q : Option Value → Shared → Prop} (X : K.In s.heap) (I : PySem.W.InstAt s.heap x ox C od)
    (hs : PySem.W.findIn K (.ref C) name = some (some (.ref f))) (hf : PySem.W.isFn K (.ref f) = true)
    (h : wpAny M A (last (.ref f) [.ref x]) (fun v => Q (some v)) E s) : wpAny M A (callSpecialIfBoundBy? last (.ref x) name) Q E s := by
  simp only [callSpecialIfBoundBy?, bindSpecialIfBound?]
  refine wpAny_holding (wpAny_bind (wpAny_bind (wpAny_bind (I.type.here ((PySem.W.looks_findIn X hs).here ?_)))))
  refine wpAny_bind (wpAny_askSetting (wpAny_ite ?_))
  have fin : wpAny M A (last (.ref f) [.ref x] >>= fun v => pure (some v)) Q E s := wpAny_bind (wpAny_mono h (fun v s' h' => wpAny_pure h') fun _ _ h' => h')
  split
  · exact wpAny_bind ((PySem.W.bind_fn X _ (beq_iff_eq.mp hf)).here (wpAny_pure (by exact fin)))
  · exact wpAny_tryCatch (wpAny_bind ((PySem.W.bind_fn X _ (beq_iff_eq.mp hf)).here (wpAny_pure (by exact fin))))
theorem reprUnder_own {prog : Program} {w : World} {A : Around} {E : Value → Shared → Prop} {s : Shared} {K : PySem.W.Frag} {x C f : Addr} {ox : Obj} {od : Option Obj} {b : Nat} {t : Str} {Q : Str → Shared → Prop} (hb : b ≤ sizeLine) (hu : A.units < cLine) (X : K.In s.heap) (I : PySem.W.InstAt s.heap x ox C od)
    (hs : PySem.W.findIn K (.ref C) "__repr__" = some (some (.ref f))) (hf : PySem.W.isFn K (.ref f) = true)
    (h : wpAny (model prog w) A (call (.ref f) [.ref x]) (fun v s' => ∃ u, v = .str t u ∧ Q t s') E s) : wpAny (model prog w) A (pyReprUnder b (.ref x)) Q E s := by
  refine wpAny_pyReprUnder_ref hb ?_
  unfold pyReprObjUnder pyReprObjBy
  refine wpAny_bind (wpAny_cRoomFor hu ?_)
  refine wpAny_bind (wpAny_bind (I.type.here ((PySem.W.looks_findIn X hs).here ?_)))
  show wpAny _ _ (if (some (Value.ref f)).isNone = true then _ else _) _ _ _
  rw [if_neg (by simp)]
  refine wpAny_bind (boundBy_own X I hs hf ?_)
  refine wpAny_mono h (fun v s' ⟨u, e, q⟩ => ?_) fun _ _ y => y
  subst e
  refine wpAny_bind (wpAny_isInstance (typeIs_str _ _ _) isSubtype_str_str ?_)
  exact wpAny_pure ⟨t, u, rfl, q⟩
end Sg
set_option Elab.async false
set_option linter.all false
set_option maxRecDepth 100000
set_option maxHeartbeats 4000000
namespace Sg
open PySem PySem.Spec PyProof.Rows L2 StX
/-! ## within the text of a container: the frames are the same -/
structure Near (A A' : Around) (m : Nat) : Prop where
  hd : A'.handled = A.handled
  fr : A'.frames = A.frames
  dp : A'.depth ≤ A.depth + m
  un : A'.units ≤ A.units + m
theorem Near.le {A A' : Around} {m n : Nat} (h : Near A A' m) (e : m ≤ n) : Near A A' n := ⟨h.hd, h.fr, by have := h.dp; omega, by have := h.un; omega⟩
theorem Near.in1 {A A' : Around} {m : Nat} (h : Near A A' m) : Near A A'.in1 (m + 1) := ⟨h.hd, h.fr, by have := h.dp; show A'.depth ≤ _; omega, by have := h.un; show A'.units + 1 ≤ _; omega⟩
theorem Near.room {A A' : Around} {m k : Nat} (h : Near A A' m) (r : Room (k + 1) A) (hm : m ≤ 3) : Room k A' := by
  have h1 := r.dp; have h2 := r.un; have h3 := h.un; have h4 := h.dp
  exact ⟨h.hd.trans r.hd, by omega, by omega⟩
/-- the thing v shows as t, whatever texts are under way -/
def Rep (X : Cx) (pins : List (Addr × Obj)) (σ : L2.St) (H : Hp) (A : Around) (v : V) (t : Str) : Prop :=
  ∀ (b : Nat) (u : Value) (s : Shared) (E : Value → Shared → Prop) (Q : Str → Shared → Prop), b + t.length ≤ sizeLine → Inv X pins σ H s → RelV v u → (∀ s', Inv X pins σ H s' → Q t s') → wpAny (model X.prog X.w) A (pyReprUnder b u) Q E s
inductive Reps (X : Cx) (pins : List (Addr × Obj)) (σ : L2.St) (H : Hp) (A : Around) : List V → List Str → Prop
  | nil : Reps X pins σ H A [] []
  | cons {v : V} {t : Str} {vs : List V} {ts : List Str} : Rep X pins σ H A v t → Reps X pins σ H A vs ts → Reps X pins σ H A (v :: vs) (t :: ts)
section
variable {X : Cx} {pins : List (Addr × Obj)} {σ : L2.St} {H : Hp} {A : Around}
theorem Reps.len : ∀ {vs : List V} {ts : List Str}, Reps X pins σ H A vs ts → ts.length = vs.length
  | _, _, .nil => rfl
  | _, _, .cons _ r => congrArg (· + 1) r.len
theorem Rep.int {i : Int} (h : i.natAbs.log2 < 1920) : Rep X pins σ H A (.int i) (PyData.int i).shown := by
  intro b u s E Q hb I r q
  obtain ⟨t, rfl⟩ := r
  have e : (PyData.int i).shown = ((toString i : String) : Str) := PyData.shown_int i
  rw [e] at hb q
  exact ReprIs.int t h b hb A E s _ fun tk => q _ (I.tok tk)
/-- a Line -/
theorem Rep.line {k m : Nat} {C a : Addr} {ws : List (List Int)} (M : Meths2 X.prog X.w X.K X.mg X.base k C) (hr : Room (k + 1) X.A) (N : Near X.A A m) (hm : m ≤ 3) (hL : LineAt X.K C H a ws) : Rep X pins σ H A (.ref a) (word ws.length) := by
  intro b u s E Q hb I r q
  obtain rfl : u = Value.ref a := r
  obtain ⟨f, fd, h⟩ := M.rep
  obtain ⟨_, _, J⟩ := insAt_look I hL.ins
  have hr' := N.room hr hm
  refine reprUnder_own (t := word ws.length) (by omega) hr'.units0 I.kIn J h.at_ h.fn ?_
  have hl : ([Value.ref a] ++ []).length = ["self"].length := rfl
  have hbb := h.bi s [.ref a] I.kIn rfl
  rw [List.append_nil] at hbb
  have e0 : Env0 X.prog X.w X.K X.mg X.base A X.stack s H := by
    have e := I.env0
    exact ⟨N.fr.trans e.frames, e.mod, e.bs, e.bsz, e.funs, e.frf, e.hok, e.bare⟩
  refine wpAny_call (codeAny_mono (h.ok.run A X.stack s H ⟨[.ref a], []⟩ [.ref a] [.ref a] (fun v H' => v = .str (word ws.length) ∧ H' = H) E0 hr' e0 hbb (.cons rfl .nil) ⟨a, ws, rfl, hL, rfl, rfl⟩) ?_)
  intro r' s' hq
  match r', hq with
  | .error _, hq => exact hq.elim
  | .ok (.ret _), hq =>
    obtain ⟨v, H', I', rv, rfl, rfl⟩ := I.after hq
    obtain ⟨u', rfl⟩ := rv
    exact ⟨u', rfl, q _ I'⟩
  | .ok .next, hq => exact hq.elim
  | .ok .brk, hq => exact hq.elim
  | .ok .cont, hq => exact hq.elim
/-- the items, one after another -/
theorem reps_fold {E : Value → Shared → Prop} : ∀ {vs : List V} {ts : List Str}, Reps X pins σ H A vs ts → ∀ {us : List Value}, Vals vs us → ∀ (acc : Array Str) (n : Nat) (s : Shared) (Q : (Array Str × Nat) → Shared → Prop), Inv X pins σ H s → n + piled ts ≤ sizeLine →
    (∀ s', Inv X pins σ H s' → Q ⟨acc ++ ts.toArray, n + piled ts⟩ s') → wpAny (model X.prog X.w) A (forIn us (⟨acc, n⟩ : (Array Str × Nat)) tupBody) Q E s := by
  intro vs ts h
  induction h with
  | nil =>
    intro us r acc n s Q I _ q
    cases r
    have h0 := q s I
    simp only [List.forIn_nil]
    exact wpAny_pure (by simpa [piled] using h0)
  | @cons v t vs ts hv _ ih =>
    intro us r acc n s Q I hn q
    cases r with
    | @cons a b as bs r1 r2 =>
      rw [piled_cons] at hn
      rw [List.forIn_cons]
      refine wpAny_bind (wpAny_bind (hv (n + 1) _ s _ _ (by omega) I r1 fun s1 I1 => wpAny_pure ?_))
      refine ih r2 (acc.push t) (n + (t.length + 2)) s1 _ I1 (by omega) fun s2 I2 => ?_
      have h1 := q s2 I2
      have e : n + piled (t :: ts) = n + (t.length + 2) + piled ts := by rw [piled_cons]; omega
      rw [e] at h1
      simpa using h1
end
end Sg
set_option Elab.async false
set_option linter.all false
set_option maxRecDepth 100000
set_option maxHeartbeats 4000000
namespace Sg
open PySem PySem.Spec PyProof.Rows L2 StX
section
variable {X : Cx} {pins : List (Addr × Obj)} {σ : L2.St} {H : Hp} {A : Around}
/-- the text of a tuple whose items show: its own code -/
theorem tupShow_own {a : Addr} {xs : List V} {ts : List Str} {g : List Code} {s : Shared} {R : Result → Shared → Prop} {base : Nat} {id : String} {rest : List Value} (I : Inv X pins σ H s) (hs : SqT X.K H a xs)
    (hT : Reps X pins σ H (A.under (.builtin id ⟨.ref a :: rest, []⟩)) xs ts) (hg : A.guards = some g) (hca : Clear g a)
    (hR : ∀ s' u, Inv X pins σ H s' → R (.ok (.ret (.str (tupleText ts) u))) s') (hsz : base + (tupleText ts).length ≤ sizeLine) :
    wpOwn (model X.prog X.w) A (.builtin id ⟨.ref a :: rest, []⟩) (Builtin.tupleReprAt base ⟨[.ref a], []⟩) (fun fin s' => match fin with | .done f => R (.ok f) s' | .again c' => c'.quiet = true ∧ codeAny (model X.prog X.w) A c' R s') (fun e s' => R (.error e) s') s := by
  obtain ⟨its, rv, ⟨o, ho, hc, n, hd⟩, hz⟩ := I.tuple hs
  have ln : ts.length = its.toArray.size := by rw [hT.len, rv.length, List.size_toArray]
  have pl := piled_le_tupleText ts
  have z0 : (tupleText ts).length ≤ sizeLine := by omega
  rw [tuple_repr_tree, tupleReprUnderWay_eq]
  have none_ : (g.any fun c => tupGuardF (.ref a) (c, default)) = false := List.any_eq_false.mpr fun c hcm => by rw [tupGuardF_of_clear hca c hcm]; exact Bool.false_ne_true
  refine wpOwn_bind (wpOwn_stackTailAny hg (tupGuardF_off _) (tupGuardF_pos _) ?_)
  rw [none_]
  refine wpOwn_of_wpAny (show wpAny _ _ (tupleReprRest base (.ref a)) _ _ s from ?_)
  unfold tupleReprRest Builtin.Tuple.tupleItemsOf
  refine wpAny_bind (wpAny_bind (wpAny_seqItems ho hd (wpAny_pure ?_)))
  rw [← Array.forIn_toList]
  refine wpAny_bind (reps_fold hT (us := its) rv _ _ _ _ I (by omega) fun s1 I1 => ?_)
  refine wpAny_bind (wpAny_mkStr (wpAny_pure ?_) (by simpa [tupleText, ln] using z0))
  have h1 := hR _ s1.toks (I1.tok (s1.toks + 1))
  simpa [tupleText, ln] using h1
/-- .. within another text -/
theorem Rep.tup {a : Addr} {xs : List V} {ts : List Str} {g : List Code} (hs : SqT X.K H a xs) (hT : ∀ rest, Reps X pins σ H (A.under (.builtin "tuple.__repr__.under" ⟨.ref a :: rest, []⟩)) xs ts) (hg : A.guards = some g) (hca : Clear g a) (hu : A.units + 1 < cLine) : Rep X pins σ H A (.ref a) (tupleText ts) := by
  intro b u s E Q hb I r q
  obtain rfl : u = Value.ref a := r
  obtain ⟨its, rv, ⟨o, ho, hc, n, hd⟩, hz⟩ := I.tuple hs
  refine wpAny_pyReprUnder_ref (by omega) ?_
  refine wpAny_pyReprObjUnder_twin (twin := "tuple.__repr__.under") ⟨o, ho, hc⟩ F.slot_tuple_repr rfl (by omega) ?_
  refine call_twin_own (F.quiet_tuple_repr_under _) F.entry_tuple_repr_under F.check_tuple_repr_under ⟨o, ho, hc⟩ F.slot_tuple_repr (F.args_tuple_repr_1 _) ?_
  exact tupShow_own I hs (hT _) hg hca (fun s' u I' => ⟨⟨_, _, rfl⟩, _, _, rfl, q s' I'⟩) hb
end
end Sg
set_option Elab.async false
set_option linter.all false
set_option maxRecDepth 100000
set_option maxHeartbeats 4000000
set_option Elab.async false
set_option linter.all false
set_option maxRecDepth 100000
set_option maxHeartbeats 4000000
namespace Sg
open PySem PySem.Spec PyProof.Rows L2 StX
/-- data that is a work -/
def WorkD (d : PyData) : Prop := ∃ ns, d = tD ns ∧ IsWork ns
theorem all_ints : ∀ {ds : List PyData} {l m : Int}, (∀ d ∈ ds, betD d l m = true) → ∃ ns : List Int, ds = iD ns ∧ ∀ x ∈ ns, l ≤ x ∧ x ≤ m
  | [], _, _, _ => ⟨[], rfl, fun _ h => nomatch h⟩
  | d :: ds, l, m, h => by
    obtain ⟨ns, rfl, hn⟩ := all_ints (ds := ds) (l := l) (m := m) fun x hx => h x (List.mem_cons_of_mem _ hx)
    have h1 := h d List.mem_cons_self
    obtain ⟨i, rfl⟩ : ∃ i, d = .int i := by cases d <;> first | exact ⟨_, rfl⟩ | exact nomatch h1
    have h2 : (decide (l ≤ i) && decide (i ≤ m)) = true := h1
    rw [Bool.and_eq_true, decide_eq_true_eq, decide_eq_true_eq] at h2
    exact ⟨i :: ns, rfl, fun x hx => (List.mem_cons.mp hx).elim (fun e => e ▸ h2) (hn x)⟩
theorem ints_bet {ns : List Int} {l m : Int} (h : ∀ x ∈ ns, l ≤ x ∧ x ≤ m) : ∀ d ∈ iD ns, betD d l m = true := fun d hd => by
  obtain ⟨x, hx, rfl⟩ := List.mem_map.mp hd
  show (decide (l ≤ x) && decide (x ≤ m)) = true
  rw [decide_eq_true (h x hx).1, decide_eq_true (h x hx).2]; rfl
/-- an exception's class that is raised with a text -/
structure Err (K : PySem.W.Frag) (mg : Str → Option Value) (n : Str) (C : Addr) : Prop where
  g : mg n = some (.ref C)
  x : PySem.W.excIn K C [.type "ValueError", .type "Exception", .type "BaseException", .type "object"] "ValueError.__new__" = true
  k : PySem.W.keepIn K (.ref C) = true
  b : PySem.W.subIn K (.ref C) (.type "BaseException") = some true
  t : PySem.W.typeIn K (.ref C) = some (.type "type")
section
variable {P : Program} {w : World} {K : PySem.W.Frag} {mg : Str → Option Value} {base : Heap}
theorem isInt_eqL (d : PyData) : (isB "int" d && !isB "bool" d) = isIntD d := by
  cases d <;> rfl
def spIsIntL (K : PySem.W.Frag) (C : Addr) : Sp := fun vs H Q _ => ∃ v d, vs = [v] ∧ Lp K C H v d ∧ Q (.bl (isIntD d)) H
theorem ok_is_intL {f C : Addr} {fd : FuncData} {k : Nat} (LK : LineKit K C) (F : Fun K "is_int" "is_int" s_is_int f fd) (m1 : mg "isinstance" = none) (m2 : mg "int" = none) (m3 : mg "bool" = none) :
    FnOk P w K mg base CX0 (k + 1) f fd ["thing"] (spIsIntL K C) := by
  refine F.ok sc_is_int (fun vs H Q E h => ?_) (fun cdv A outer s H vs Q E hr h => ?_)
  · obtain ⟨v, d, rfl, _⟩ := h; rfl
  · obtain ⟨v, d, rfl, hd, q⟩ := h
    refine ⟨_, pss_one (ps_ret (pe_and
      (pe_callB (call_isiL (K := K) rfl LK) (by rfl) m1 (by decide +kernel) (pa_cons (pv 0) (pa_cons (pe_bltn (v := .ty "int") (by rfl) m2 (by decide +kernel) rfl) pa_nil)))
      (pe_one (pe_not (pe_callB (call_isiL (K := K) rfl LK) (by rfl) m1 (by decide +kernel) (pa_cons (pv 0) (pa_cons (pe_bltn (v := .ty "bool") (by rfl) m3 (by decide +kernel) rfl) pa_nil))))))), ?_⟩
    refine ⟨v, rfl, v, d, "int", rfl, hd, .inr (.inl rfl), isB "int" d, rfl, ?_⟩
    have e := isInt_eqL d
    cases h1 : isB "int" d with
    | false => rw [h1] at e; rw [← e] at q; exact iteF q
    | true =>
      refine iteT ⟨v, rfl, v, d, "bool", rfl, hd, .inr (.inr (.inl rfl)), isB "bool" d, rfl, ?_⟩
      rw [h1, Bool.true_and] at e
      rw [← e] at q
      exact q
def spBetL (K : PySem.W.Frag) (C : Addr) : Sp := fun vs H Q _ => ∃ v d, ∃ l m : Int, vs = [v, .int l, .int m] ∧ Lp K C H v d ∧ Q (.bl (betD d l m)) H
theorem ok_is_betweenL {f f1 C : Addr} {fd fd1 : FuncData} {k : Nat} (F : Fun K "is_between" "is_between" s_is_between f fd)
    (G1 : FnOk P w K mg base CX0 k f1 fd1 ["thing"] (spIsIntL K C)) (kp1 : PySem.W.keepIn K (.ref f1) = true) (b1 : Binds K fd1 ["thing"] []) (g1 : mg "is_int" = some (.ref f1)) :
    FnOk P w K mg base CX0 (k + 1) f fd ["thing", "least", "most"] (spBetL K C) := by
  refine F.ok sc_is_between (fun vs H Q E h => ?_) (fun cdv A outer s H vs Q E hr h => ?_)
  · obtain ⟨v, d, l, m, rfl, _⟩ := h; rfl
  · obtain ⟨v, d, l, m, rfl, hd, q⟩ := h
    refine ⟨_, pss_one (ps_ret (pe_and (pe_call G1 hr (by rfl) g1 kp1 b1 .nil pass0 (pa_cons (pv 0) pa_nil)) (pe_one (pe_chain op_le op_le (pv 1) (pv 0) (pv 2))))), ?_⟩
    refine ⟨v, rfl, v, d, rfl, hd, isIntD d, rfl, ?_⟩
    cases hi : isIntD d with
    | false =>
      have e : betD d l m = false := by cases d <;> first | rfl | exact nomatch hi
      rw [e] at q
      exact iteF q
    | true =>
      obtain ⟨i, rfl⟩ : ∃ i, d = .int i := by cases d <;> first | exact ⟨_, rfl⟩ | exact nomatch hi
      obtain rfl : v = .int i := hd.int_inv
      refine iteT ⟨.int l, rfl, .int i, rfl, l, i, rfl, rfl, decide (l ≤ i), rfl, ?_⟩
      have e : betD (.int i) l m = (decide (l ≤ i) && decide (i ≤ m)) := rfl
      rw [e] at q
      by_cases h1 : l ≤ i
      · rw [decide_eq_true h1] at q ⊢
        exact iteT ⟨.int m, rfl, i, m, rfl, rfl, q⟩
      · rw [decide_eq_false h1] at q ⊢
        exact iteF q
/-! ### is_work, of any data -/
def spIsWorkL (K : PySem.W.Frag) (C : Addr) : Sp := fun vs H Q _ => ∃ v d, vs = [v] ∧ Lp K C H v d ∧ ∀ H' b, Same H H' → (b = true ↔ WorkD d) → Q (.bl b) H'
theorem ok_is_workL {f f1 C : Addr} {fd fd1 : FuncData} {k : Nat} (LK : LineKit K C) (F : Fun K "is_work" "is_work" s_is_work f fd) (N : Nums mg)
    (G1 : FnOk P w K mg base CX0 k f1 fd1 ["thing", "least", "most"] (spBetL K C)) (kp1 : PySem.W.keepIn K (.ref f1) = true) (b1 : Binds K fd1 ["thing", "least", "most"] []) (g1 : mg "is_between" = some (.ref f1))
    (m1 : mg "isinstance" = none) (m2 : mg "tuple" = none) (m3 : mg "len" = none) (m4 : mg "all" = none) :
    FnOk P w K mg base CX0 (k + 1) f fd ["thing"] (spIsWorkL K C) := by
  obtain ⟨t1, n1⟩ := N.nowhere
  obtain ⟨t2, n2⟩ := N.stations
  obtain ⟨t3, n3⟩ := N.most
  refine F.ok sc_is_work (fun vs H Q E h => ?_) (fun cdv A outer s H vs Q E hr h => ?_)
  · obtain ⟨v, d, rfl, _⟩ := h; rfl
  · obtain ⟨v, d, rfl, hd, q⟩ := h
    refine ⟨_, pss_cons (ps_if (PW.pt (pw_or (pt_not (pt_val (pe_callB (call_isiL (K := K) rfl LK) (by rfl) m1 (by decide +kernel) (pa_cons (pv 0) (pa_cons (pe_bltn (v := .ty "tuple") (by rfl) m2 (by decide +kernel) rfl) pa_nil)))))
          (pw_or1 (pt_not (pt_chain op_le op_le pe_int (pe_callB call_len_seq (by rfl) m3 PySem.boot_len (pa_cons (pv 0) pa_nil)) (pe_glob (v := .int 60) (by rfl) n3 ⟨_, rfl⟩))))))
        (pss_one (ps_ret pe_bl)) pss_nil)
      (pss_cons (ps_if (pt_not (pt_val (pe_callB (cr_all rfl) (by rfl) m4 (by decide +kernel) (pa_cons
          (pe_lc (own := [("item", 1)]) (g := gName 1) (tt := tYes) rfl sc_is_work.nd (pi_tup (pv 0)) (blkOk_by (N := ["thing", "item"]) (sc := defScope s_is_work) (by decide +kernel))
            (fun _ _ _ _ _ => pg_name (i := 1) sc_is_work.nd rfl (Or.inl rfl)) (fun _ _ _ _ _ => pts_nil)
            (fun _ _ _ _ _ => pe_call G1 hr (by rfl) g1 kp1 b1 .nil pass0 (pa_cons (pv 1) (pa_cons (pe_glob (v := .int (-1)) (by rfl) n1 ⟨_, rfl⟩) (pa_cons (pe_op op_sub (pe_glob (v := .int 10) (by rfl) n2 ⟨_, rfl⟩) pe_int) pa_nil))))) pa_nil))))
        (pss_one (ps_ret pe_bl)) pss_nil)
      (pss_one (ps_ret (pe_and (pe_cmpR op_ne (pe_ix ix_tup (pv 0) pe_int (fun _ _ => rfl)) (pe_glob (v := .int (-1)) (by rfl) n1 ⟨_, rfl⟩) (nomark _))
        (pe_one (pe_cmpR op_ne (pe_ix ix_tup (pv 0) (pe_un un_neg pe_int) (fun _ _ => rfl)) (pe_glob (v := .int (-1)) (by rfl) n1 ⟨_, rfl⟩) (nomark _))))))), ?_⟩
    refine ⟨v, rfl, v, d, "tuple", rfl, hd, .inl rfl, isB "tuple" d, rfl, ?_⟩
    cases ht : isB "tuple" d with
    | false =>
      refine iteT ?_
      refine q H false (same_refl H) ⟨(fun z => nomatch z), fun ⟨ns, z, _⟩ => ?_⟩
      rw [z] at ht
      exact nomatch ht
    | true =>
      obtain ⟨ds, rfl⟩ := isB_tup.mp ht
      obtain ⟨a, xs, rfl, hS, hA⟩ := hd.tuple_inv
      have lx := LpAll.len hA
      have nowork : ∀ {H'}, Same H H' → (∀ ns, ds = iD ns → ¬ IsWork ns) → Q (.bl false) H' := fun {H'} e no => q H' false e ⟨(fun z => nomatch z), fun ⟨ns, z, hw⟩ => absurd hw (no ns (PyData.tuple.inj z))⟩
      refine iteF ?_
      refine ⟨.ref a, rfl, a, xs, rfl, .inr hS, 1, _, rfl, rfl, decide ((1 : Int) ≤ ((xs.length : Nat) : Int)), rfl, ?_⟩
      by_cases c1 : (1 : Int) ≤ ((xs.length : Nat) : Int)
      case neg =>
        rw [decide_eq_false c1]
        refine iteF ⟨false, rfl, iteT (nowork (same_refl H) fun ns e hw => ?_)⟩
        have := hw.pos
        rw [e, List.length_map] at lx
        omega
      rw [decide_eq_true c1]
      refine iteT ⟨_, 60, rfl, rfl, decide (((xs.length : Nat) : Int) ≤ 60), rfl, ?_⟩
      by_cases c2 : ((xs.length : Nat) : Int) ≤ 60
      case neg =>
        rw [decide_eq_false c2]
        refine iteT (nowork (same_refl H) fun ns e hw => ?_)
        have := hw.most
        rw [e, List.length_map] at lx
        omega
      rw [decide_eq_true c2]
      refine iteF ?_
      refine ⟨.ref a, rfl, a, rfl, ⟨_, hS⟩, fun D hD => ?_⟩
      refine lc_tup (xs := xs) (fun i H' => Same H H' ∧ H' D = some (.lst ((((ds.take i).map fun z => betD z (-1) 9)).map V.bl))) ⟨same_new hD, upd_same⟩ (fun i H' _ h => Same.tup h.1 hS) (fun i x H' hx h => ?_) (fun H' h => ?_)
      · obtain ⟨dd, hdd, hxd⟩ := LpAll.at hA hx
        have hil := (List.getElem?_eq_some_iff.mp hdd).1
        refine ⟨rfl, x, rfl, 10, 1, rfl, rfl, x, dd, -1, _, rfl, (hxd.same h.1), ?_⟩
        refine ⟨_, h.2, ?_, fun b o e => ?_, ?_⟩
        · rw [List.length_map, List.length_map, List.length_take]
          exact small1000 (by omega)
        · rw [upd_ne (ne_of_none e hD)]
          exact h.1 _ _ e
        · rw [upd_same, List.take_add_one, hdd, List.map_append, List.map_append]
          rfl
      · have h2 := h.2
        rw [lx, List.take_length] at h2
        refine ⟨D, _, rfl, .of h2, ((ds.map fun z => betD z (-1) 9)).all id, rfl, ?_⟩
        cases hall : ((ds.map fun z => betD z (-1) 9)).all id with
        | false =>
          refine iteT (nowork h.1 fun ns e hw => ?_)
          have : ((ds.map fun z => betD z (-1) 9)).all id = true := by
            rw [List.all_map, List.all_eq_true]
            intro z hz
            rw [e] at hz
            exact ints_bet (fun x hx => hw.items x hx) z hz
          rw [this] at hall
          exact nomatch hall
        | true =>
          rw [List.all_map, List.all_eq_true] at hall
          obtain ⟨ns, rfl, hns⟩ := all_ints hall
          obtain rfl := lpInts_v hA
          have ln : (ns.map V.int).length = ns.length := List.length_map _
          rw [ln] at c1 c2
          refine iteF ?_
          have hS' : SqT K H' a (ns.map V.int) := Same.tup h.1 hS
          obtain ⟨x, hx⟩ : ∃ x, ns[0]? = some x := ⟨ns[0]'(by omega), List.getElem?_eq_getElem _⟩
          obtain ⟨y, hy⟩ : ∃ y, ns[ns.length - 1]? = some y := ⟨ns[ns.length - 1]'(by omega), List.getElem?_eq_getElem _⟩
          have gx : (ns.map V.int)[0]? = some (.int x) := by rw [List.getElem?_map, hx]; rfl
          have gy : atI (ns.map V.int) (-1) = some (.int y) := by
            have hne : ns ≠ [] := fun z => by rw [z] at c1; exact absurd c1 (by decide)
            have e1 : ns = ns.dropLast ++ [y] := by
              have e2 : ns.getLast hne = y := by
                have := List.getLast_eq_getElem hne
                rw [this]
                exact (List.getElem?_eq_some_iff.mp hy).2
              rw [← e2, List.dropLast_concat_getLast]
            rw [e1, List.map_append]
            exact atI_last _ _
          have fin : ∀ b : Bool, (b = true ↔ x ≠ -1 ∧ y ≠ -1) → Q (.bl b) H' := fun b hb => q H' b h.1 (hb.trans ⟨fun ⟨g1, g2⟩ => ⟨ns, rfl, ⟨by omega, by omega, hns, fun z hz => by rw [hx] at hz; rw [← Option.some.inj hz]; exact g1, fun z hz => by rw [hy] at hz; rw [← Option.some.inj hz]; exact g2⟩⟩,
            fun ⟨ms, e, hw⟩ => by
              have e' : ns = ms := by
                have := congrArg (fun l : List PyData => l.map fun d => match d with | .int i => i | _ => 0) (PyData.tuple.inj e)
                simpa [List.map_map, Function.comp_def] using this
              subst e'
              exact ⟨hw.head x hx, hw.last y hy⟩⟩)
          refine ⟨.ref a, rfl, a, _, 0, .int x, rfl, rfl, hS', atI_nat (j := 0) gx, rfl, _, rfl, ?_⟩
          by_cases ex : x = -1
          · have d1 : (!decide (V.int x = V.int (-1))) = false := by rw [ex]; rfl
            rw [d1]
            exact iteF (fin false ⟨(fun z => nomatch z), fun z => absurd ex z.1⟩)
          · have d1 : (!decide (V.int x = V.int (-1))) = true := by rw [decide_eq_false fun z => ex (V.int.inj z)]; rfl
            rw [d1]
            refine iteT ⟨.ref a, rfl, 1, rfl, a, _, -1, .int y, rfl, rfl, hS', gy, rfl, ?_⟩
            refine fin _ ⟨fun z => ⟨ex, fun e => ?_⟩, fun z => ?_⟩
            · rw [e] at z; exact nomatch z
            · rw [decide_eq_false fun e => z.2 (V.int.inj e)]; rfl
/-! ### require_work, of any data -/
end
end Sg
set_option Elab.async false
set_option linter.all false
set_option maxRecDepth 100000
set_option maxHeartbeats 4000000
namespace Sg
open PySem PySem.Spec PyProof.Rows L2 StX
theorem cLenK {X : Cx} {K : PySem.W.Frag} {k : Nat} {C : Addr} (M : Meths X.prog X.w K X.mg X.base k C) (hK : X.K = K) (hr : Room (k + 2) X.A) : CallR X (.builtin "len") (fun xs H Q => ∃ a ws, xs = [.ref a] ∧ LineAt K C H a ws ∧ Q (.int (ws.length : Nat)) H) := by
  subst hK
  exact M.cLen hr
def intD : PyData → Int
  | .int i => i
  | _ => 0
def startB (n : Nat) (least : Int) : PyData → Bool
  | .tuple [x, y] => isIntD x && (decide (least ≤ intD x) && betD y 0 ((n : Nat) - 1))
  | _ => false
def firstD : PyData → Int
  | .tuple (x :: _) => intD x
  | _ => 0
def planB (n : Nat) : Int → List PyData → Bool
  | _, [] => true
  | l, d :: ds => startB n l d && planB n (firstD d + 1) ds
def isPlanB (n : Nat) : PyData → Bool
  | .tuple ds => decide (ds.length ≤ 60) && planB n 0 ds
  | _ => false
section
variable {P : Program} {w : World} {K : PySem.W.Frag} {mg : Str → Option Value} {base : Heap}
/-! ### require_line, of any value that is plain -/
theorem call_isiLP {X : Cx} {C : Addr} (hK : X.K = K) (hN : NoInst K C) (T : LC K mg C) (I : LI K C) :
    CallR X (.builtin "isinstance") (fun xs H Q => ∃ v, xs = [v, .ref C] ∧ ((∃ a ws, v = .ref a ∧ LineAt K C H a ws ∧ Q (.bl true) H) ∨ (PlainV K H v ∧ Q (.bl false) H))) := by
  subst hK
  intro pins s σ H xs us Q J r h
  obtain ⟨v, rfl, h⟩ := h
  rcases h with ⟨a, ws, rfl, hL, q⟩ | ⟨hp, q⟩
  · exact call_isi pins s σ H _ us Q J r ⟨.ref a, .ref C, .ref C, .ref C, true, rfl, .own C, isLine T.cl I hL, I.kit, q⟩
  · exact call_isiP rfl hN pins s σ H _ us Q J r ⟨v, rfl, hp, q⟩
def spReqLineA (K : PySem.W.Frag) (C Cl : Addr) : Sp := fun vs H Q E => ∃ v, vs = [v] ∧ ((∃ a ws, v = .ref a ∧ LineAt K C H a ws ∧ Q .non H) ∨ (PlainV K H v ∧ E (.ref Cl) none H))
theorem ok_require_lineA {f C Cl : Addr} {fd : FuncData} {k : Nat} (F : Fun K "require_line" "require_line" s_require_line f fd) (R : Err K mg "NoLine" Cl) (hN : NoInst K C) (T : LC K mg C) (I : LI K C) (m1 : mg "isinstance" = none) :
    FnOk P w K mg base (L2.CX P w) (k + 1) f fd ["thing"] (spReqLineA K C Cl) := by
  refine F.okX sc_require_line (fun vs H Q E h => ?_) (fun cdv A outer s H vs Q E hr h => ?_)
  · obtain ⟨v, rfl, _⟩ := h; rfl
  · obtain ⟨v, rfl, h⟩ := h
    refine ⟨_, pss_one (ps_if (pt_not (pt_val (pe_callB (call_isiLP (K := K) rfl hN T I) (by rfl) m1 (by decide +kernel) (pa_cons (pv 0) (pa_cons (pe_glob (v := .ref C) (by rfl) T.mgC rfl) pa_nil)))))
      (pss_one (ps_raise rfl (takes_of rfl rfl rfl rfl) (pmk_own PySem.F.excBase_ValueError R.x R.g R.k (raises_own R.b R.t) rfl))) pss_nil), ?_⟩
    rcases h with ⟨a, ws, rfl, hL, q⟩ | ⟨hp, q⟩
    · exact ⟨.ref a, rfl, .ref a, rfl, .inl ⟨a, ws, rfl, hL, true, rfl, iteF q⟩⟩
    · exact ⟨v, rfl, v, rfl, .inr ⟨hp, false, rfl, iteT q⟩⟩
/-! ### is_kind, of data that may hold a Line -/
def spKindL (K : PySem.W.Frag) (C : Addr) : Sp := fun vs H Q _ => ∃ (a : Addr) (v : V) (ws : List (List Int)) (d : PyData), vs = [.ref a, v] ∧ LineAt K C H a ws ∧ Lp K C H v d ∧ Q (.bl (betD d 0 ((ws.length : Nat) - 1))) H
theorem ok_is_kindL {f f1 C : Addr} {fd fd1 : FuncData} {k : Nat} (F : Fun K "is_kind" "is_kind" s_is_kind f fd) (M : Meths2 P w K mg base k C)
    (G1 : FnOk P w K mg base CX0 (k + 2) f1 fd1 ["thing", "least", "most"] (spBetL K C)) (kp1 : PySem.W.keepIn K (.ref f1) = true) (b1 : Binds K fd1 ["thing", "least", "most"] []) (g1 : mg "is_between" = some (.ref f1)) (m1 : mg "len" = none) :
    FnOk P w K mg base CX0 (k + 3) f fd ["line", "thing"] (spKindL K C) := by
  refine F.ok sc_is_kind (fun vs H Q E h => ?_) (fun cdv A outer s H vs Q E hr h => ?_)
  · obtain ⟨a, v, ws, d, rfl, _⟩ := h; rfl
  · obtain ⟨a, v, ws, d, rfl, hL, hd, q⟩ := h
    refine ⟨_, pss_one (ps_ret (pe_call G1 hr (by rfl) g1 kp1 b1 .nil pass0 (pa_cons (pv 1) (pa_cons pe_int (pa_cons (pe_op op_sub (pe_callB (cLenK (K := K) M.m rfl hr) (by rfl) m1 PySem.boot_len (pa_cons (pv 0) pa_nil)) pe_int) pa_nil))))), ?_⟩
    exact ⟨v, rfl, .ref a, rfl, a, ws, rfl, hL, _, 1, rfl, rfl, v, d, 0, _, rfl, hd, q⟩
/-! ### _is_start -/
def spStartL (K : PySem.W.Frag) (C : Addr) : Sp := fun vs H Q _ => ∃ (a : Addr) (v : V) (ws : List (List Int)) (d : PyData) (l : Int), vs = [.ref a, v, .int l] ∧ LineAt K C H a ws ∧ Lp K C H v d ∧ Q (.bl (startB ws.length l d)) H
theorem ok_is_startL {f f1 f2 C : Addr} {fd fd1 fd2 : FuncData} {k : Nat} (LK : LineKit K C) (F : Fun K "_is_start" "_is_start" s_is_start f fd)
    (G1 : FnOk P w K mg base CX0 k f1 fd1 ["thing"] (spIsIntL K C)) (kp1 : PySem.W.keepIn K (.ref f1) = true) (b1 : Binds K fd1 ["thing"] []) (g1 : mg "is_int" = some (.ref f1))
    (G2 : FnOk P w K mg base CX0 k f2 fd2 ["line", "thing"] (spKindL K C)) (kp2 : PySem.W.keepIn K (.ref f2) = true) (b2 : Binds K fd2 ["line", "thing"] []) (g2 : mg "is_kind" = some (.ref f2))
    (m1 : mg "isinstance" = none) (m2 : mg "tuple" = none) (m3 : mg "len" = none) :
    FnOk P w K mg base CX0 (k + 1) f fd ["line", "thing", "least"] (spStartL K C) := by
  refine F.ok sc_is_start (fun vs H Q E h => ?_) (fun cdv A outer s H vs Q E hr h => ?_)
  · obtain ⟨a, v, ws, d, l, rfl, _⟩ := h; rfl
  · obtain ⟨a, v, ws, d, l, rfl, hL, hd, q⟩ := h
    refine ⟨_, pss_cons (ps_if (PW.pt (pw_or (pt_not (pt_val (pe_callB (call_isiL (K := K) rfl LK) (by rfl) m1 (by decide +kernel) (pa_cons (pv 1) (pa_cons (pe_bltn (v := .ty "tuple") (by rfl) m2 (by decide +kernel) rfl) pa_nil)))))
          (pw_or1 (pt_cmpR op_ne (pe_callB call_len_seq (by rfl) m3 PySem.boot_len (pa_cons (pv 1) pa_nil)) pe_int (nomark _)))))
        (pss_one (ps_ret pe_bl)) pss_nil)
      (pss_one (ps_ret (pe_and (pe_call G1 hr (by rfl) g1 kp1 b1 .nil pass0 (pa_cons (pe_ix ix_tup (pv 1) pe_int (fun _ _ => rfl)) pa_nil))
        (pe_and (pe_cmpR op_ge (pe_ix ix_tup (pv 1) pe_int (fun _ _ => rfl)) (pv 2) (nomark _))
          (pe_one (pe_call G2 hr (by rfl) g2 kp2 b2 .nil pass0 (pa_cons (pv 0) (pa_cons (pe_ix ix_tup (pv 1) pe_int (fun _ _ => rfl)) pa_nil)))))))), ?_⟩
    refine ⟨v, rfl, v, d, "tuple", rfl, hd, .inl rfl, isB "tuple" d, rfl, ?_⟩
    cases ht : isB "tuple" d with
    | false =>
      have e : startB ws.length l d = false := by cases d <;> first | rfl | exact nomatch ht
      rw [e] at q
      exact iteT q
    | true =>
      obtain ⟨ds, rfl⟩ := isB_tup.mp ht
      obtain ⟨b, xs, rfl, hS, hA⟩ := hd.tuple_inv
      have lx := LpAll.len hA
      refine iteF ⟨.ref b, rfl, b, xs, rfl, .inr hS, rfl, _, rfl, ?_⟩
      by_cases c2 : xs.length = 2
      case neg =>
        rw [show (!decide (V.int ((xs.length : Nat) : Int) = V.int 2)) = true from by rw [decide_eq_false fun z => c2 (by have := V.int.inj z; omega)]; rfl]
        have e : startB ws.length l (.tuple ds) = false := by
          match ds, lx with
          | [], _ => rfl
          | [_], _ => rfl
          | [_, _], z => exact absurd z c2
          | _ :: _ :: _ :: _, _ => rfl
        rw [e] at q
        exact iteT q
      rw [show (!decide (V.int ((xs.length : Nat) : Int) = V.int 2)) = false from by rw [c2]; rfl]
      obtain ⟨x0, x1, rfl⟩ : ∃ x0 x1, xs = [x0, x1] := by
        match xs, c2 with
        | [x0, x1], _ => exact ⟨x0, x1, rfl⟩
      obtain ⟨d0, d1, rfl, h0, h1⟩ : ∃ d0 d1, ds = [d0, d1] ∧ Lp K C H x0 d0 ∧ Lp K C H x1 d1 := by
        cases hA with
        | cons a0 r =>
          cases r with
          | cons a1 r2 =>
            cases r2
            exact ⟨_, _, rfl, a0, a1⟩
      have e : startB ws.length l (.tuple [d0, d1]) = (isIntD d0 && (decide (l ≤ intD d0) && betD d1 0 ((ws.length : Nat) - 1))) := rfl
      rw [e] at q
      refine iteF ⟨.ref b, rfl, b, _, 0, x0, rfl, rfl, hS, atI0, x0, d0, rfl, h0, isIntD d0, rfl, ?_⟩
      cases hi : isIntD d0 with
      | false => rw [hi] at q; exact iteF q
      | true =>
        obtain ⟨i, rfl⟩ : ∃ i, d0 = .int i := by cases d0 <;> first | exact ⟨_, rfl⟩ | exact nomatch hi
        obtain rfl := h0.int_inv
        rw [hi, Bool.true_and] at q
        refine iteT ⟨.ref b, rfl, b, _, 0, .int i, rfl, rfl, hS, atI0, .int l, rfl, i, l, rfl, rfl, decide (l ≤ i), rfl, ?_⟩
        by_cases hc : l ≤ i
        · have e2 : decide (l ≤ intD (.int i)) = true := decide_eq_true hc
          rw [e2, Bool.true_and] at q
          rw [decide_eq_true hc]
          exact iteT ⟨.ref a, rfl, .ref b, rfl, b, _, 1, x1, rfl, rfl, hS, atI1, a, x1, ws, d1, rfl, hL, h1, q⟩
        · have e2 : decide (l ≤ intD (.int i)) = false := decide_eq_false hc
          rw [e2, Bool.false_and] at q
          rw [decide_eq_false hc]
          exact iteF q
end
end Sg
set_option Elab.async false
set_option linter.all false
set_option maxRecDepth 100000
set_option maxHeartbeats 4000000
namespace Sg
open PySem PySem.Spec PyProof.Rows L2 StX
/-- a lap of a line of n works -/
structure GoodLap (n : Nat) (lp : List Int) : Prop where
  pos : 1 ≤ lp.length
  most : lp.length ≤ 900
  items : ∀ x ∈ lp, -1 ≤ x ∧ x < n
theorem startB_inv {n : Nat} {l : Int} {d : PyData} (h : startB n l d = true) : ∃ i y, d = .tuple [.int i, y] := by
  unfold startB at h
  split at h
  · rename_i x y
    rw [Bool.and_eq_true] at h
    have h1 := h.1
    cases x <;> first | exact ⟨_, _, rfl⟩ | exact nomatch h1
  · exact nomatch h
section
variable {P : Program} {w : World} {K : PySem.W.Frag} {mg : Str → Option Value} {base : Heap}
def LapD (n : Nat) (d : PyData) : Prop := ∃ lp, d = tD lp ∧ GoodLap n lp
def spIsLapL (K : PySem.W.Frag) (C : Addr) (R : Nat → PyData → Prop) : Sp := fun vs H Q _ => ∃ (a : Addr) (v : V) (ws : List (List Int)) (d : PyData), vs = [.ref a, v] ∧ LineAt K C H a ws ∧ Lp K C H v d ∧ d.bulk ≤ 900 ∧ ∀ H' b, Same H H' → (b = true ↔ R ws.length d) → Q (.bl b) H'
theorem ok_is_lapL {f f1 C : Addr} {fd fd1 : FuncData} {k : Nat} (LK : LineKit K C) (F : Fun K "is_lap" "is_lap" s_is_lap f fd) (M : Meths2 P w K mg base k C) (hN : ∃ t, mg "NOTHING" = some (.int (-1) t))
    (G1 : FnOk P w K mg base CX0 (k + 2) f1 fd1 ["thing", "least", "most"] (spBetL K C)) (kp1 : PySem.W.keepIn K (.ref f1) = true) (b1 : Binds K fd1 ["thing", "least", "most"] []) (g1 : mg "is_between" = some (.ref f1))
    (m1 : mg "isinstance" = none) (m2 : mg "tuple" = none) (m3 : mg "len" = none) (m4 : mg "all" = none) : FnOk P w K mg base CX0 (k + 3) f fd ["line", "thing"] (spIsLapL K C LapD) := by
  obtain ⟨tN, nN⟩ := hN
  refine F.ok sc_is_lap (fun vs H Q E h => ?_) (fun cdv A outer s H vs Q E hr h => ?_)
  · obtain ⟨a, v, ws, d, rfl, _⟩ := h; rfl
  · obtain ⟨a, v, ws, d, rfl, hL, hd, hbk, q⟩ := h
    refine ⟨_, pss_cons (ps_if (PW.pt (pw_or (pt_not (pt_val (pe_callB (call_isiL (K := K) rfl LK) (by rfl) m1 (by decide +kernel) (pa_cons (pv 1) (pa_cons (pe_bltn (v := .ty "tuple") (by rfl) m2 (by decide +kernel) rfl) pa_nil)))))
        (pw_or1 (pt_cmpR op_eq (pe_callB call_len_seq (by rfl) m3 PySem.boot_len (pa_cons (pv 1) pa_nil)) pe_int (nomark _))))) (pss_one (ps_ret pe_bl)) pss_nil)
      (pss_one (ps_ret (pe_callB (cr_all rfl) (by rfl) m4 (by decide +kernel) (pa_cons
          (pe_lc (own := [("item", 2)]) (g := gName 2) (tt := tYes) rfl sc_is_lap.nd (pi_tup (pv 1)) (blkOk_by (N := ["line", "thing", "item"]) (sc := defScope s_is_lap) (by decide +kernel))
            (fun _ _ _ _ _ => pg_name (i := 2) sc_is_lap.nd rfl (Or.inl rfl)) (fun _ _ _ _ _ => pts_nil)
            (fun _ _ _ _ _ => pe_call G1 hr (by rfl) g1 kp1 b1 .nil pass0 (pa_cons (pv 2) (pa_cons (pe_glob (v := .int (-1)) (by rfl) nN ⟨_, rfl⟩) (pa_cons (pe_op op_sub (pe_callB (cLenK (K := K) M.m rfl hr) (by rfl) m3 PySem.boot_len (pa_cons (pv 0) pa_nil)) pe_int) pa_nil))))) pa_nil)))), ?_⟩
    refine ⟨v, rfl, v, d, "tuple", rfl, hd, .inl rfl, isB "tuple" d, rfl, ?_⟩
    cases ht : isB "tuple" d with
    | false =>
      refine iteT (q H false (same_refl H) ⟨(fun z => nomatch z), fun ⟨ns, z, _⟩ => ?_⟩)
      rw [z] at ht; exact nomatch ht
    | true =>
      obtain ⟨ds, rfl⟩ := isB_tup.mp ht
      obtain ⟨b, xs, rfl, hS, hA⟩ := hd.tuple_inv
      have lx := LpAll.len hA
      have l9 := tup_short hbk
      refine iteF ⟨.ref b, rfl, b, xs, rfl, .inr hS, rfl, _, rfl, ?_⟩
      by_cases c0 : xs.length = 0
      · rw [show decide (V.int ((xs.length : Nat) : Int) = V.int 0) = true from decide_eq_true (by rw [c0]; rfl)]
        refine iteT (q H false (same_refl H) ⟨(fun z => nomatch z), fun ⟨ns, z, g⟩ => ?_⟩)
        have e := PyData.tuple.inj z
        have := g.pos
        rw [e, List.length_map] at lx
        omega
      rw [show decide (V.int ((xs.length : Nat) : Int) = V.int 0) = false from decide_eq_false fun z => c0 (by have := V.int.inj z; omega)]
      refine iteF ⟨.ref b, rfl, b, rfl, ⟨_, hS⟩, fun D hD => ?_⟩
      refine lc_tup (xs := xs) (fun i H' => Same H H' ∧ H' D = some (.lst ((((ds.take i).map fun z => betD z (-1) ((ws.length : Nat) - 1))).map V.bl))) ⟨same_new hD, upd_same⟩ (fun i H' _ h => Same.tup h.1 hS) (fun i x H' hx h => ?_) (fun H' h => ?_)
      · obtain ⟨dd, hdd, hxd⟩ := LpAll.at hA hx
        have hil := (List.getElem?_eq_some_iff.mp hdd).1
        refine ⟨rfl, x, rfl, .ref a, rfl, a, ws, rfl, hL.stay (.of h.1), _, 1, rfl, rfl, x, dd, -1, _, rfl, (hxd.same h.1), ?_⟩
        refine ⟨_, h.2, ?_, fun y o e => ?_, ?_⟩
        · rw [List.length_map, List.length_map, List.length_take]
          exact small1000 (by omega)
        · rw [upd_ne (ne_of_none e hD)]; exact h.1 _ _ e
        · rw [upd_same, List.take_add_one, hdd, List.map_append, List.map_append]; rfl
      · have h2 := h.2
        rw [lx, List.take_length] at h2
        refine ⟨D, _, rfl, .of h2, ?_⟩
        refine q H' _ h.1 ⟨fun hall => ?_, fun ⟨lp, e, g⟩ => ?_⟩
        · rw [List.all_map, List.all_eq_true] at hall
          obtain ⟨ns, rfl, hns⟩ := all_ints hall
          rw [List.length_map] at lx l9
          exact ⟨ns, rfl, by omega, l9, fun x hx => by have := hns x hx; omega⟩
        · rw [List.all_map, List.all_eq_true]
          intro z hz
          rw [PyData.tuple.inj e] at hz
          exact ints_bet (fun x hx => by have := g.items x hx; omega) z hz
/-! ### require_lap, require_worths -/
/-! ### is_plan, require_plan -/
def spIsPlanL (K : PySem.W.Frag) (C Cl : Addr) : Sp := fun vs H Q E => ∃ v u, vs = [v, u] ∧ ((PlainV K H v ∧ E (.ref Cl) none H) ∨ ∃ a ws d, v = .ref a ∧ LineAt K C H a ws ∧ Lp K C H u d ∧ Q (.bl (isPlanB ws.length d)) H)
theorem ok_is_planL {f f1 f2 C Cl : Addr} {fd fd1 fd2 : FuncData} {k : Nat} (LK : LineKit K C) (F : Fun K "is_plan" "is_plan" s_is_plan f fd) (hN : ∃ t, mg "MOST_STARTS" = some (.int 60 t))
    (G1 : FnOk P w K mg base (L2.CX P w) k f1 fd1 ["thing"] (spReqLineA K C Cl)) (kp1 : PySem.W.keepIn K (.ref f1) = true) (b1 : Binds K fd1 ["thing"] []) (g1 : mg "require_line" = some (.ref f1))
    (G2 : FnOk P w K mg base CX0 k f2 fd2 ["line", "thing", "least"] (spStartL K C)) (kp2 : PySem.W.keepIn K (.ref f2) = true) (b2 : Binds K fd2 ["line", "thing", "least"] []) (g2 : mg "_is_start" = some (.ref f2))
    (m1 : mg "isinstance" = none) (m2 : mg "tuple" = none) (m3 : mg "len" = none) :
    FnOk P w K mg base (L2.CX P w) (k + 1) f fd ["line", "thing"] (spIsPlanL K C Cl) := by
  obtain ⟨tN, nN⟩ := hN
  refine F.okX sc_is_plan (fun vs H Q E h => ?_) (fun cdv A outer s H vs Q E hr h => ?_)
  · obtain ⟨v, u, rfl, _⟩ := h; rfl
  · obtain ⟨v, u, rfl, h⟩ := h
    refine ⟨_, pss_cons (ps_expr (pe_callS G1 hr (by rfl) g1 kp1 b1 (fun σ => passAt (takes_of rfl rfl rfl rfl) σ) (pa_cons (pv 0) pa_nil)))
      (pss_cons (ps_if (PW.pt (pw_or (pt_not (pt_val (pe_callB (call_isiL (K := K) rfl LK) (by rfl) m1 (by decide +kernel) (pa_cons (pv 1) (pa_cons (pe_bltn (v := .ty "tuple") (by rfl) m2 (by decide +kernel) rfl) pa_nil)))))
          (pw_or1 (pt_cmpR op_gt (pe_callB call_len_seq (by rfl) m3 PySem.boot_len (pa_cons (pv 1) pa_nil)) (pe_glob (v := .int 60) (by rfl) nN ⟨_, rfl⟩) (nomark _)))))
        (pss_one (ps_ret pe_bl)) pss_nil)
      (pss_cons (ps_set (i := 2) sc_is_plan.nd rfl (.inl rfl) pe_int)
      (pss_cons (ps_for (passes_of rfl) rfl (pi_tup (pv 1)) (pg_name (i := 3) sc_is_plan.nd rfl (.inl rfl))
        (pss_cons (ps_if (pt_not (pt_val (pe_call G2 hr (by rfl) g2 kp2 b2 .nil pass0 (pa_cons (pv 0) (pa_cons (pv 3) (pa_cons (pv 2) pa_nil)))))) (pss_one (ps_ret pe_bl)) pss_nil)
        (pss_one (ps_set (i := 2) sc_is_plan.nd rfl (.inl rfl) (pe_op op_add (pe_ix ix_tup (pv 3) pe_int (fun _ _ => rfl)) pe_int)))))
      (pss_one (ps_ret pe_bl))))), ?_⟩
    rcases h with ⟨hp, q⟩ | ⟨a, ws, d, rfl, hL, hd, q⟩
    · exact ⟨v, rfl, v, rfl, .inr ⟨hp, q⟩⟩
    refine ⟨.ref a, rfl, .ref a, rfl, .inl ⟨a, ws, rfl, hL, u, rfl, u, d, "tuple", rfl, hd, .inl rfl, isB "tuple" d, rfl, ?_⟩⟩
    cases ht : isB "tuple" d with
    | false =>
      have e : isPlanB ws.length d = false := by cases d <;> first | rfl | exact nomatch ht
      rw [e] at q
      exact iteT q
    | true =>
      obtain ⟨ds, rfl⟩ := isB_tup.mp ht
      obtain ⟨b, xs, rfl, hS, hA⟩ := hd.tuple_inv
      have lx := LpAll.len hA
      have e : isPlanB ws.length (.tuple ds) = (decide (ds.length ≤ 60) && planB ws.length 0 ds) := rfl
      rw [e] at q
      refine iteF ⟨.ref b, rfl, b, xs, rfl, .inr hS, _, 60, rfl, rfl, _, rfl, ite2 (fun hc => ?_) (fun hc => ?_)⟩
      · have := of_decide_eq_true hc
        rw [decide_eq_false (by omega), Bool.false_and] at q
        exact q
      have hle : ds.length ≤ 60 := by
        have : ¬ ((60 : Int) < ((xs.length : Nat) : Int)) := fun z => hc (decide_eq_true z)
        omega
      rw [decide_eq_true hle, Bool.true_and] at q
      refine ⟨.ref b, rfl, b, rfl, ⟨_, hS⟩, ?_⟩
      refine for_tup (xs := xs) (fun i σ H' => ∃ l v3, σ = [some (.ref a), some (.ref b), some (.int l), v3] ∧ H' = H ∧ planB ws.length l (ds.drop i) = planB ws.length 0 ds) ⟨0, _, rfl, rfl, rfl⟩ (fun i σ H' _ h => ?_) ?_ ?_
      · obtain ⟨_, _, _, rfl, _⟩ := h
        exact hS
      · rintro i x σ H' hx ⟨l, v3, rfl, rfl, hp⟩
        obtain ⟨dd, hdd, hxd⟩ := LpAll.at hA hx
        have hil := (List.getElem?_eq_some_iff.mp hdd).1
        have hdr : ds.drop i = dd :: ds.drop (i + 1) := by
          rw [List.drop_eq_getElem_cons hil]
          congr 1
          exact (List.getElem?_eq_some_iff.mp hdd).2
        rw [hdr] at hp
        have e2 : planB ws.length l (dd :: ds.drop (i + 1)) = (startB ws.length l dd && planB ws.length (firstD dd + 1) (ds.drop (i + 1))) := rfl
        rw [e2] at hp
        refine ⟨.ref a, rfl, x, rfl, .int l, rfl, a, x, ws, dd, l, rfl, hL, hxd, startB ws.length l dd, rfl, ?_⟩
        cases hs : startB ws.length l dd with
        | false =>
          rw [hs, Bool.false_and] at hp
          rw [← hp] at q
          exact iteT q
        | true =>
          rw [hs, Bool.true_and] at hp
          obtain ⟨i0, y, rfl⟩ : ∃ i0 y, dd = .tuple [.int i0, y] := by
            exact startB_inv hs
          obtain ⟨c, us, rfl, hC, hU⟩ := hxd.tuple_inv
          obtain ⟨u0, u1, rfl, h0⟩ : ∃ u0 u1, us = [u0, u1] ∧ u0 = .int i0 := by
            cases hU with
            | cons a0 r =>
              cases r with
              | cons a1 r2 =>
                cases r2
                exact ⟨_, _, rfl, a0.int_inv⟩
          subst h0
          exact iteF ⟨.ref c, rfl, c, _, 0, .int i0, rfl, rfl, hC, atI0, i0, 1, rfl, rfl, i0 + 1, _, rfl, rfl, hp⟩
      · rintro σ H' ⟨l, v3, rfl, rfl, hp⟩
        rw [show ds.drop xs.length = [] from by rw [lx]; exact List.drop_length] at hp
        have e3 : planB ws.length l [] = true := rfl
        rw [e3] at hp
        rw [← hp] at q
        exact q
end
end Sg
set_option Elab.async false
set_option linter.all false
set_option maxRecDepth 100000
set_option maxHeartbeats 4000000
namespace Sg
open PySem PySem.Spec PyProof.Rows L2 StX
def kNames : List Str := ["NoWork", "NoLine", "NoKind", "OnlyOne", "NoPlan", "NoKinds", "NoCounts", "NoState", "NoChoice", "NoTick", "NoLap", "NotFitting", "NoWorths", "NoWaits", "NoDistance", "NotTwo", "NoRate", "NoBars", "NoTicks", "NoStation", "NoPace", "NoText", "NothingDone", "Clash", "TooSoon", "TooMany", "TooFar", "TooLong"]
def kWords : List Str := ["NoWork", "NoLine", "NoKind", "OnlyOne", "NoPlan", "NoKinds", "NoCounts", "NoState", "NoChoice", "NoTick", "NoLap", "NotFitting", "NoWorths", "NoWaits", "NoDistance", "NotTwo", "NoRate", "NoBars", "NoTicks", "NoStation", "NoPace", "NoText", "NothingDone", "Clash", "TooSoon"]
/-- the marks from i on, n of them: the one at j is set -/
def mk (j i n : Nat) : List V := (List.range' i n).map fun m => V.bl (decide (m = j))
theorem mk_app (j i n : Nat) : mk j 0 i ++ mk j i n = mk j 0 (i + n) := by
  unfold mk
  rw [← List.map_append]
  congr 1
  have := List.range'_append_1 (s := 0) (m := i) (n := n)
  rw [Nat.zero_add] at this
  exact this
def tMks (p : Addr × Obj) (j i n : Nat) : TA := fun σ H Q => σ[0]? = some (some (.ref p.1)) ∧ Q (mk j i n) H
def tMkL (p : Addr × Obj) (j i n : Nat) : TE := fun σ H Q => σ[0]? = some (some (.ref p.1)) ∧ ∀ H' l, Same H H' → H' l = some (.lst (mk j i n)) → Q (.ref l) H'
section
variable {X : Cx} {p : Addr × Obj} {j i n : Nat}
theorem pa_m0 : PA X [] (tMks p j i 0) := ⟨fun pos pins s σ H Q I h => pa_nil.run pos pins s σ H Q I h.2⟩
theorem pa_m {e : Expr} {es : List Expr} (h : PE X e fun σ H Q => σ[0]? = some (some (.ref p.1)) ∧ Q (.bl (decide (i = j))) H) (g : PA X es (tMks p j (i + 1) n))
    (he : starEach (e :: es) X.env = (false, eval e X.env) :: starEach es X.env := by rfl) : PA X (e :: es) (tMks p j i (n + 1)) := by
  refine ⟨fun pos pins s σ H Q I q => (pa_cons h g he).run pos pins s σ H Q I ?_⟩
  exact ⟨q.1, q.1, q.2⟩
theorem pe_mkL {es : List Expr} {pos : Pos} (h : PA X es (tMks p j i n)) (hn : n ≤ 1000) : PE X (.List es pos) (tMkL p j i n) := by
  refine PE.imp (pe_lst h) fun σ H Q q => ⟨q.1, ?_, fun l nl => q.2 _ l (same_new nl) upd_same⟩
  have big : 1000 ≤ sizeLine := by rw [sizeLine_eq]; decide
  unfold mk
  rw [List.length_map, List.length_range']; omega
end
/-- the class D is the one at j -/
structure KindOk (K : PySem.W.Frag) (C : Nat → Addr) (D : Addr) (j : Nat) : Prop where
  lt : j < 28
  ec : ExcC K D
  kit : ∀ i, i < 28 → PySem.W.kitOne K (.ref D) (.ref (C i)) = some (decide (i = j))
  val : PySem.W.kitOne K (.ref D) (.type "ValueError") = some true
theorem pe_isE {X : Cx} {K : PySem.W.Frag} {C : Nat → Addr} {p : Addr × Obj} {D : Addr} {j : Nat} {x : Str} {q1 q2 q3 pos : Pos} (hK : X.K = K) (hp : p ∈ X.pn) (KO : KindOk K C D j) (hz : Zc (.ref D) none p.2) (hf : ∃ vs, p.2.data = .fields vs)
    (gi : Gl X "isinstance") (m1 : X.mg "isinstance" = none) (i : Nat) (hi : i < 28) (gx : Gl X x) (hx : X.mg x = some (.ref (C i))) (hN : X.N[0]? = some ("_law_e" : Str)) (hv : Vis X.env.scope "_law_e") (hd : (x == ("__debug__" : Str)) = false := by decide) :
    PE X (.Call (.Name "isinstance" q1) [.Name "_law_e" q3, .Name x q2] [] pos) (fun σ H Q => σ[0]? = some (some (.ref p.1)) ∧ Q (.bl (decide (i = j))) H) :=
  PE.imp (pe_callB (call_isP hK hp KO.ec hz hf) gi m1 (by decide +kernel) (pa_cons (pe_var hN hv) (pa_cons (pe_glob (v := .ref (C i)) gx hx rfl hd) pa_nil))) fun σ H Q q =>
    ⟨.ref p.1, q.1, .ref (C i), .ref (C i), _, rfl, (fun u r => r), KO.kit i hi, q.2⟩
theorem mk_count : ∀ j, j < 28 → ((List.range' 0 28).map fun m => decide (m = j)).count true = 1 := by decide +kernel
theorem mk_at {j n : Nat} (h : j < n) : (mk j 0 n)[j]? = some (.bl true) := by
  unfold mk
  rw [List.getElem?_map, List.getElem?_range' h]
  simp
theorem mk_no {j m n : Nat} (h : j < n) (hm : m < j) : (mk j 0 n)[m]? = some (.bl false) := by
  unfold mk
  rw [List.getElem?_map, List.getElem?_range' (by omega)]
  simp only [Option.map_some, Option.some.injEq, V.bl.injEq, decide_eq_false_iff_not]
  omega
theorem mk_far {j m : Nat} (h : j < 25) (hm : m < 3) : (mk j 25 3)[m]? = some (.bl false) := by
  unfold mk
  rw [List.getElem?_map, List.getElem?_range' hm]
  simp only [Option.map_some, Option.some.injEq, V.bl.injEq, decide_eq_false_iff_not]
  omega
section
variable {P : Program} {w : World} {K : PySem.W.Frag} {mg : Str → Option Value} {base : Heap}
def spWord (K : PySem.W.Frag) (C : Nat → Addr) (p : Addr × Obj) : Sp := fun vs H Q _ => ∃ D j wd, KindOk K C D j ∧ j < 25 ∧ kWords[j]? = some wd ∧ vs = [.ref p.1] ∧ Zc (.ref D) none p.2 ∧ (∃ vs, p.2.data = .fields vs) ∧ ∀ H', Same H H' → Q (.str wd) H'
theorem ok_l_word {f : Addr} {fd : FuncData} {k : Nat} {C : Nat → Addr} (F : Fun K "_law_word" "_law_word" s_l_word f fd) (hg : ∀ i, i < 28 → mg (kNames.getD i "") = some (.ref (C i)))
    (m1 : mg "isinstance" = none) (m2 : mg "ValueError" = none) : FnE P w K mg base (k + 1) f fd ["_law_e"] (spWord K C) := by
  refine fnE_mk F sc_l_word (fun p vs H Q h => ?_) (fun cdv A outer s H vs Q p hr h => ?_)
  · obtain ⟨D, j, wd, _, _, _, rfl, _⟩ := h; rfl
  · obtain ⟨D, j, wd, KO, hj, hw, rfl, hz, hf, q⟩ := h
    have EC := KO.ec
    refine ⟨_, pss_cons (ps_set (i := 1) sc_l_word.nd rfl (.inl rfl) (pe_mkL (pa_m (pe_isE (K := K) (C := C) rfl (List.mem_singleton.mpr rfl) KO hz hf (by rfl) m1 0 (by decide) (by rfl) (hg 0 (by decide)) rfl (Or.inl rfl)) (pa_m (pe_isE (K := K) (C := C) rfl (List.mem_singleton.mpr rfl) KO hz hf (by rfl) m1 1 (by decide) (by rfl) (hg 1 (by decide)) rfl (Or.inl rfl)) (pa_m (pe_isE (K := K) (C := C) rfl (List.mem_singleton.mpr rfl) KO hz hf (by rfl) m1 2 (by decide) (by rfl) (hg 2 (by decide)) rfl (Or.inl rfl)) (pa_m (pe_isE (K := K) (C := C) rfl (List.mem_singleton.mpr rfl) KO hz hf (by rfl) m1 3 (by decide) (by rfl) (hg 3 (by decide)) rfl (Or.inl rfl)) pa_m0)))) (by decide)))
      (pss_cons (ps_set (i := 1) sc_l_word.nd rfl (.inl rfl) (pe_op op_cat (pv 1) (pe_mkL (pa_m (pe_isE (K := K) (C := C) rfl (List.mem_singleton.mpr rfl) KO hz hf (by rfl) m1 4 (by decide) (by rfl) (hg 4 (by decide)) rfl (Or.inl rfl)) (pa_m (pe_isE (K := K) (C := C) rfl (List.mem_singleton.mpr rfl) KO hz hf (by rfl) m1 5 (by decide) (by rfl) (hg 5 (by decide)) rfl (Or.inl rfl)) (pa_m (pe_isE (K := K) (C := C) rfl (List.mem_singleton.mpr rfl) KO hz hf (by rfl) m1 6 (by decide) (by rfl) (hg 6 (by decide)) rfl (Or.inl rfl)) (pa_m (pe_isE (K := K) (C := C) rfl (List.mem_singleton.mpr rfl) KO hz hf (by rfl) m1 7 (by decide) (by rfl) (hg 7 (by decide)) rfl (Or.inl rfl)) pa_m0)))) (by decide))))
      (pss_cons (ps_set (i := 1) sc_l_word.nd rfl (.inl rfl) (pe_op op_cat (pv 1) (pe_mkL (pa_m (pe_isE (K := K) (C := C) rfl (List.mem_singleton.mpr rfl) KO hz hf (by rfl) m1 8 (by decide) (by rfl) (hg 8 (by decide)) rfl (Or.inl rfl)) (pa_m (pe_isE (K := K) (C := C) rfl (List.mem_singleton.mpr rfl) KO hz hf (by rfl) m1 9 (by decide) (by rfl) (hg 9 (by decide)) rfl (Or.inl rfl)) (pa_m (pe_isE (K := K) (C := C) rfl (List.mem_singleton.mpr rfl) KO hz hf (by rfl) m1 10 (by decide) (by rfl) (hg 10 (by decide)) rfl (Or.inl rfl)) (pa_m (pe_isE (K := K) (C := C) rfl (List.mem_singleton.mpr rfl) KO hz hf (by rfl) m1 11 (by decide) (by rfl) (hg 11 (by decide)) rfl (Or.inl rfl)) pa_m0)))) (by decide))))
      (pss_cons (ps_set (i := 1) sc_l_word.nd rfl (.inl rfl) (pe_op op_cat (pv 1) (pe_mkL (pa_m (pe_isE (K := K) (C := C) rfl (List.mem_singleton.mpr rfl) KO hz hf (by rfl) m1 12 (by decide) (by rfl) (hg 12 (by decide)) rfl (Or.inl rfl)) (pa_m (pe_isE (K := K) (C := C) rfl (List.mem_singleton.mpr rfl) KO hz hf (by rfl) m1 13 (by decide) (by rfl) (hg 13 (by decide)) rfl (Or.inl rfl)) (pa_m (pe_isE (K := K) (C := C) rfl (List.mem_singleton.mpr rfl) KO hz hf (by rfl) m1 14 (by decide) (by rfl) (hg 14 (by decide)) rfl (Or.inl rfl)) pa_m0))) (by decide))))
      (pss_cons (ps_set (i := 1) sc_l_word.nd rfl (.inl rfl) (pe_op op_cat (pv 1) (pe_mkL (pa_m (pe_isE (K := K) (C := C) rfl (List.mem_singleton.mpr rfl) KO hz hf (by rfl) m1 15 (by decide) (by rfl) (hg 15 (by decide)) rfl (Or.inl rfl)) (pa_m (pe_isE (K := K) (C := C) rfl (List.mem_singleton.mpr rfl) KO hz hf (by rfl) m1 16 (by decide) (by rfl) (hg 16 (by decide)) rfl (Or.inl rfl)) (pa_m (pe_isE (K := K) (C := C) rfl (List.mem_singleton.mpr rfl) KO hz hf (by rfl) m1 17 (by decide) (by rfl) (hg 17 (by decide)) rfl (Or.inl rfl)) (pa_m (pe_isE (K := K) (C := C) rfl (List.mem_singleton.mpr rfl) KO hz hf (by rfl) m1 18 (by decide) (by rfl) (hg 18 (by decide)) rfl (Or.inl rfl)) pa_m0)))) (by decide))))
      (pss_cons (ps_set (i := 1) sc_l_word.nd rfl (.inl rfl) (pe_op op_cat (pv 1) (pe_mkL (pa_m (pe_isE (K := K) (C := C) rfl (List.mem_singleton.mpr rfl) KO hz hf (by rfl) m1 19 (by decide) (by rfl) (hg 19 (by decide)) rfl (Or.inl rfl)) (pa_m (pe_isE (K := K) (C := C) rfl (List.mem_singleton.mpr rfl) KO hz hf (by rfl) m1 20 (by decide) (by rfl) (hg 20 (by decide)) rfl (Or.inl rfl)) (pa_m (pe_isE (K := K) (C := C) rfl (List.mem_singleton.mpr rfl) KO hz hf (by rfl) m1 21 (by decide) (by rfl) (hg 21 (by decide)) rfl (Or.inl rfl)) pa_m0))) (by decide))))
      (pss_cons (ps_set (i := 1) sc_l_word.nd rfl (.inl rfl) (pe_op op_cat (pv 1) (pe_mkL (pa_m (pe_isE (K := K) (C := C) rfl (List.mem_singleton.mpr rfl) KO hz hf (by rfl) m1 22 (by decide) (by rfl) (hg 22 (by decide)) rfl (Or.inl rfl)) (pa_m (pe_isE (K := K) (C := C) rfl (List.mem_singleton.mpr rfl) KO hz hf (by rfl) m1 23 (by decide) (by rfl) (hg 23 (by decide)) rfl (Or.inl rfl)) (pa_m (pe_isE (K := K) (C := C) rfl (List.mem_singleton.mpr rfl) KO hz hf (by rfl) m1 24 (by decide) (by rfl) (hg 24 (by decide)) rfl (Or.inl rfl)) pa_m0))) (by decide))))
      (pss_cons (ps_set (i := 2) sc_l_word.nd rfl (.inl rfl) (pe_mkL (pa_m (pe_isE (K := K) (C := C) rfl (List.mem_singleton.mpr rfl) KO hz hf (by rfl) m1 25 (by decide) (by rfl) (hg 25 (by decide)) rfl (Or.inl rfl)) (pa_m (pe_isE (K := K) (C := C) rfl (List.mem_singleton.mpr rfl) KO hz hf (by rfl) m1 26 (by decide) (by rfl) (hg 26 (by decide)) rfl (Or.inl rfl)) (pa_m (pe_isE (K := K) (C := C) rfl (List.mem_singleton.mpr rfl) KO hz hf (by rfl) m1 27 (by decide) (by rfl) (hg 27 (by decide)) rfl (Or.inl rfl)) pa_m0))) (by decide)))
      (pss_cons (ps_if (PW.pt (pw_or (pt_cmpR op_ne (pe_bm PySem.F.plainAttrs_list PySem.F.slot_list_count PySem.F.type_list_count mt_lcountB (pe_op op_cat (pv 1) (pv 2)) (pa_cons pe_bl pa_nil)) pe_int (nomark _)) (pw_or1 (pt_not (pt_val (pe_callB (call_isP (K := K) rfl (List.mem_singleton.mpr rfl) EC hz hf) (by rfl) m1 (by decide +kernel) (pa_cons (pv 0) (pa_cons (pe_bltn (v := .ty "ValueError") (by rfl) m2 (by decide +kernel) rfl) pa_nil)))))))) (pss_one ps_never) pss_nil)
      (pss_cons (ps_if (pt_val (pe_ix ix_list (pv 2) pe_int (fun _ _ => rfl))) (pss_one ps_never) pss_nil)
      (pss_cons (ps_if (pt_val (pe_ix ix_list (pv 2) pe_int (fun _ _ => rfl))) (pss_one ps_never) pss_nil)
      (pss_cons (ps_if (pt_val (pe_ix ix_list (pv 2) pe_int (fun _ _ => rfl))) (pss_one ps_never) pss_nil)
      (pss_cons (ps_set (i := 3) sc_l_word.nd rfl (.inl rfl) (pe_lst (pa_cons pe_str (pa_cons pe_str (pa_cons pe_str (pa_cons pe_str (pa_cons pe_str (pa_cons pe_str (pa_cons pe_str (pa_cons pe_str (pa_cons pe_str (pa_cons pe_str pa_nil))))))))))))
      (pss_cons (ps_set (i := 3) sc_l_word.nd rfl (.inl rfl) (pe_op op_cat (pv 3) (pe_lst (pa_cons pe_str (pa_cons pe_str (pa_cons pe_str (pa_cons pe_str (pa_cons pe_str (pa_cons pe_str (pa_cons pe_str (pa_cons pe_str pa_nil)))))))))))
      (pss_cons (ps_set (i := 3) sc_l_word.nd rfl (.inl rfl) (pe_op op_cat (pv 3) (pe_lst (pa_cons pe_str (pa_cons pe_str (pa_cons pe_str (pa_cons pe_str (pa_cons pe_str (pa_cons pe_str (pa_cons pe_str pa_nil))))))))))
      (pss_one (ps_ret (pe_ix ix_list (pv 3) (pe_bm PySem.F.plainAttrs_list PySem.F.slot_list_index PySem.F.type_list_index mt_index (pv 1) (pa_cons pe_bl pa_nil)) (fun _ _ => rfl)))))))))))))))))), ?_⟩
    have big : 1000 ≤ sizeLine := by rw [sizeLine_eq]; decide
    have cat : ∀ {H1 H2 : Hp} {l1 l2 : Addr} {n m : Nat} {Q : VK}, H1 l1 = some (.lst (mk j 0 n)) → Same H1 H2 → H2 l2 = some (.lst (mk j n m)) → n + m ≤ 1000 →
        (∀ H3 l3, Same H2 H3 → H3 l3 = some (.lst (mk j 0 (n + m))) → Q (.ref l3) H3) → rCat (.ref l1) (.ref l2) H2 Q := @fun H1 H2 l1 l2 n m Q h1 e h2 hs q => by
      refine ⟨l1, l2, _, _, rfl, rfl, e _ _ h1, h2, ?_, fun l3 n3 => q _ l3 (same_new n3) (by rw [mk_app]; exact upd_same)⟩
      unfold mk
      rw [List.length_map, List.length_map, List.length_range', List.length_range']; omega
    refine ⟨rfl, fun H1 l1 e1 h1 => ?_⟩
    refine ⟨.ref l1, rfl, rfl, fun H2 l2 e2 h2 => cat h1 e2 h2 (by decide) fun H3 l3 e3 h3 => ?_⟩
    have s1 := (e1.trans e2).trans e3
    refine ⟨.ref l3, rfl, rfl, fun G4 g4 e4 y4 => cat h3 e4 y4 (by decide) fun H4 l4 z4 h4 => ?_⟩
    have s1 := (s1.trans e4).trans z4
    refine ⟨.ref l4, rfl, rfl, fun G5 g5 e5 y5 => cat h4 e5 y5 (by decide) fun H5 l5 z5 h5 => ?_⟩
    have s1 := (s1.trans e5).trans z5
    refine ⟨.ref l5, rfl, rfl, fun G6 g6 e6 y6 => cat h5 e6 y6 (by decide) fun H6 l6 z6 h6 => ?_⟩
    have s1 := (s1.trans e6).trans z6
    refine ⟨.ref l6, rfl, rfl, fun G7 g7 e7 y7 => cat h6 e7 y7 (by decide) fun H7 l7 z7 h7 => ?_⟩
    have s1 := (s1.trans e7).trans z7
    refine ⟨.ref l7, rfl, rfl, fun G8 g8 e8 y8 => cat h7 e8 y8 (by decide) fun H8 l8 z8 h8 => ?_⟩
    have s1 := (s1.trans e8).trans z8
    refine ⟨rfl, fun H9 l9 e9 h9 => ?_⟩
    have s1 := s1.trans e9
    have h8 := e9 _ _ h8
    have hb : mk j 0 (25 + 3) = ((List.range' 0 28).map fun m => decide (m = j)).map V.bl := by
      unfold mk; rw [List.map_map]; rfl
    refine ⟨.ref l8, rfl, .ref l9, rfl, cat h8 (same_refl H9) h9 (by decide) fun H10 l10 e10 h10 => ?_⟩
    have s1 := s1.trans e10
    have h8 := e10 _ _ h8
    have h9 := e10 _ _ h9
    refine ⟨.inl ⟨rfl, _, .of h10⟩, l10, _, rfl, rfl, .of (hb ▸ h10), ?_⟩
    rw [mk_count j KO.lt]
    refine ⟨rfl, _, rfl, iteF ?_⟩
    refine ⟨.ref p.1, rfl, .ty "ValueError", .type "ValueError", true, rfl, (fun u r => r), KO.val, true, rfl, iteF ?_⟩
    refine ⟨.ref l9, rfl, l9, _, (0 : Nat), .bl false, rfl, rfl, .of h9, atI_nat (mk_far hj (by decide)), false, rfl, iteF ?_⟩
    refine ⟨.ref l9, rfl, l9, _, (1 : Nat), .bl false, rfl, rfl, .of h9, atI_nat (mk_far hj (by decide)), false, rfl, iteF ?_⟩
    refine ⟨.ref l9, rfl, l9, _, (2 : Nat), .bl false, rfl, rfl, .of h9, atI_nat (mk_far hj (by decide)), false, rfl, iteF ?_⟩
    refine ⟨by show 10 ≤ sizeLine; omega, fun w1 nw1 => ?_⟩
    have s2 := same_new (o := .lst [V.str "NoWork", V.str "NoLine", V.str "NoKind", V.str "OnlyOne", V.str "NoPlan", V.str "NoKinds", V.str "NoCounts", V.str "NoState", V.str "NoChoice", V.str "NoTick"]) nw1
    refine ⟨.ref w1, rfl, by show 8 ≤ sizeLine; omega, fun w2 nw2 => ?_⟩
    refine ⟨w1, w2, _, _, rfl, rfl, same_new nw2 _ _ upd_same, upd_same, by show 10 + 8 ≤ sizeLine; omega, fun w3 nw3 => ?_⟩
    refine ⟨.ref w3, rfl, by show 7 ≤ sizeLine; omega, fun w4 nw4 => ?_⟩
    refine ⟨w3, w4, _, _, rfl, rfl, same_new nw4 _ _ upd_same, upd_same, by show 18 + 7 ≤ sizeLine; omega, fun w5 nw5 => ?_⟩
    have s3 := (((s2.trans (same_new (o := .lst [V.str "NoLap", V.str "NotFitting", V.str "NoWorths", V.str "NoWaits", V.str "NoDistance", V.str "NotTwo", V.str "NoRate", V.str "NoBars"]) nw2)).trans (same_new (o := .lst ([V.str "NoWork", V.str "NoLine", V.str "NoKind", V.str "OnlyOne", V.str "NoPlan", V.str "NoKinds", V.str "NoCounts", V.str "NoState", V.str "NoChoice", V.str "NoTick"] ++ [V.str "NoLap", V.str "NotFitting", V.str "NoWorths", V.str "NoWaits", V.str "NoDistance", V.str "NotTwo", V.str "NoRate", V.str "NoBars"])) nw3)).trans (same_new (o := .lst [V.str "NoTicks", V.str "NoStation", V.str "NoPace", V.str "NoText", V.str "NothingDone", V.str "Clash", V.str "TooSoon"]) nw4)).trans (same_new (o := .lst (([V.str "NoWork", V.str "NoLine", V.str "NoKind", V.str "OnlyOne", V.str "NoPlan", V.str "NoKinds", V.str "NoCounts", V.str "NoState", V.str "NoChoice", V.str "NoTick"] ++ [V.str "NoLap", V.str "NotFitting", V.str "NoWorths", V.str "NoWaits", V.str "NoDistance", V.str "NotTwo", V.str "NoRate", V.str "NoBars"]) ++ [V.str "NoTicks", V.str "NoStation", V.str "NoPace", V.str "NoText", V.str "NothingDone", V.str "Clash", V.str "TooSoon"])) nw5)
    have h8 := s3 _ _ h8
    have s4 := s1.trans s3
    refine ⟨.ref w5, rfl, .ref l8, rfl, .inl ⟨rfl, _, .of h8⟩, l8, _, .bl true, j, .bl true, rfl, rfl, .of h8, rfl, ?_, mk_at hj, rfl, fun m z' hm hz' => ?_, ?_⟩
    · unfold mk
      rw [List.all_map, List.all_eq_true]
      exact fun _ _ => rfl
    · have e := mk_no (n := 25) hj hm
      rw [show (mk j 0 25) = mk j 0 (22 + 3) from rfl] at e
      rw [e] at hz'
      rw [← Option.some.inj hz']; rfl
    · refine ⟨w5, _, (j : Nat), .str wd, rfl, rfl, .of upd_same, atI_nat ?_, q _ s4⟩
      show (kWords.map V.str)[j]? = _
      rw [List.getElem?_map, hw]; rfl
end
end Sg
set_option Elab.async false
set_option linter.all false
set_option maxRecDepth 100000
set_option maxHeartbeats 4000000
namespace Sg
open PySem PySem.Spec PyProof.Rows L2 StX
theorem PSs.imp {X : Cx} {sts : List Stmt} {t t' : TS} (h : PSs X sts t) (i : ∀ D σ H, t' D σ H → t D σ H) : PSs X sts t' := ⟨fun pins s σ H D I q => h.run pins s σ H D I (i _ _ _ q)⟩
theorem takes_len {X : Cx} {W : WX} (t : Takes X W) : Takes X (fun cls d σ H => σ.length = X.N.length → W cls d σ H) := fun u s' h => by
  obtain ⟨a, B, sI, pins, σ, H, cls, d, e, I, nb, up, sky, na, os, ag, w⟩ := h
  exact t u s' ⟨a, B, sI, pins, σ, H, cls, d, e, I, nb, up, sky, na, os, ag, w I.len⟩
theorem words_short : ∀ w ∈ kWords, w.length ≤ 20 := by decide +kernel
/-- what the told def wishes of an exception -/
def SaidE (K : PySem.W.Frag) (C : Nat → Addr) (Gap : Addr) (Q : VK) : XK := fun cls d H => ∃ Dc j wd, cls = .ref Dc ∧ d = none ∧ KindOk K C Dc j ∧ kWords[j]? = some wd ∧ j < 25 ∧ PySem.W.exmOne K (.ref Dc) (.ref Gap) = some true ∧
  ∀ H', Same H H' → Q (.str ("! " ++ wd)) H'
/-- repr of data, with short numbers or with long ones -/
def ShD (K : PySem.W.Frag) (H : Hp) (v : V) (d : PyData) : Prop := (Aq K H v d ∧ GoodD d) ∨ ∃ a, v = .ref a ∧ Dp K H v d ∧ GoodW d
theorem call_reprDW {X : Cx} {j : Nat} (hgd : X.A.guards = some []) (hr : Room j X.A) : CallR X (.builtin "repr") (fun xs H Q => ∃ v d, xs = [v] ∧ ShD X.K H v d ∧ Q (.str d.shown) H) := by
  intro pins s σ H xs us Q I r h
  obtain ⟨v, d, e, hd, q⟩ := h
  rcases hd with ⟨h1, h2⟩ | ⟨a, rfl, h1, h2⟩
  · exact call_reprA hgd hr pins s σ H xs us Q I r ⟨v, d, e, h1, h2, q⟩
  · exact call_reprW hgd hr pins s σ H xs us Q I r ⟨a, d, e, h1, h2, q⟩
def TSaid (K : PySem.W.Frag) (C : Nat → Addr) (Gap : Addr) : (XK → Hp → VK → Prop) → Hp → VK → Prop := fun tl H Q =>
  tl (SaidE K C Gap Q) H (fun v H' => ∃ v' d, [v] = [v'] ∧ ShD K H' v' d ∧ Q (.str d.shown) H')
theorem said_gives {X : Cx} {q : Str} {g f1 Gap : Addr} {fd1 : FuncData} {cdg : Value} {k : Nat} {C : Nat → Addr} (hgd : X.A.guards = some []) (hr : Room (k + 1) X.A)
    (G1 : FnE X.prog X.w X.K X.mg X.base k f1 fd1 ["_law_e"] (spWord X.K C)) (kp1 : PySem.W.keepIn X.K (.ref f1) = true) (b1 : Binds X.K fd1 ["_law_e"] []) (g1 : X.mg "_law_word" = some (.ref f1))
    (hme : X.mg "GapError" = some (.ref Gap)) (m1 : X.mg "repr" = none) :
    LamX.GivesTo X ["_law_call", "_law_e"] "_law_said" (defScope s_l_said) g cdg (defBody s_l_said) "_law_call" q (TSaid X.K C Gap) := by
  intro f c' s H Q tl act hc h
  have big : 1000 ≤ sizeLine := by rw [sizeLine_eq]; decide
  have hr' := hr.deeper (envOfC "_law_said" (defScope s_l_said) s.heap.objs.size g cdg)
  refine ⟨_, pss_one (ps_try_as (X := (cxOf C8.CX0 X.prog X.w X.K X.mg X.base ["_law_call", "_law_e"] "_law_said" (defScope s_l_said) g cdg X.A X.stack s H C8.E0).nox) (c := .ref Gap) (i := 1)
      (tb := fun W D σ H => ∃ Ech : XK, (∀ cls d σ' H', Ech cls d H' → σ'.length = 2 → W cls d σ' H') ∧ σ[0]? = some (some (.ref f)) ∧ H c' = some (LamX.CodeO c' q) ∧ tl Ech H (fun v H' => ∃ v' d, [v] = [v'] ∧ ShD X.K H' v' d ∧ D.rt (.str d.shown) H'))
      (ts := fun a cls d D σ H => (∃ x y, σ = [x, y]) ∧ σ[1]? = some (some (.ref a)) ∧ ∃ Dc j wd, cls = .ref Dc ∧ d = none ∧ KindOk X.K C Dc j ∧ kWords[j]? = some wd ∧ j < 25 ∧ ∀ H', Same H H' → D.rt (.str ("! " ++ wd)) H')
      rfl rfl sc_l_said.nd rfl rfl ⟨by rfl, by decide, .inl hme⟩ LamX.takes0 (fun W pn xe tk _ => ?_) (fun a oe cls d pn hz hf => ?_)), ?_⟩
  · refine ⟨fun pins s' σ H' D I h' => ?_⟩
    obtain ⟨Ech, hW, h1, h2, h3⟩ := h'
    have hp := fun p1 p2 => act _ pn xe Ech p1 p2 (takes_len tk) hW
    refine PSs.run (pss_one (ps_ret (pe_callB (call_reprDW (X := ((cxOf C8.CX0 X.prog X.w X.K X.mg X.base ["_law_call", "_law_e"] "_law_said" (defScope s_l_said) g cdg X.A X.stack s H C8.E0).nox).tr pn xe) hgd (j := k) ⟨hr'.hd, hr'.dp, hr'.un⟩) (by rfl) m1 (by decide +kernel) (pa_cons (hp _ _) pa_nil)))) pins s' σ H' D I ⟨h1, h2, h3⟩
  · refine PSs.imp (pss_one (ps_ret (pe_op op_add_str pe_str (pe_callE G1 List.mem_cons_self ⟨hr'.dp, hr'.un⟩ (by rfl) g1 kp1 b1 (pa_cons (pv 1) pa_nil))))) fun D σ H h => ?_
    obtain ⟨⟨x, y, rfl⟩, hy, Dc, j, wd, rfl, rfl, KO, hw, n1, qq⟩ := h
    refine ⟨.ref a, hy, Dc, j, wd, KO, n1, hw, rfl, hz, hf, fun H' e => ?_⟩
    have ls := words_short wd (List.mem_of_getElem? hw)
    refine ⟨_, _, rfl, rfl, ?_, qq _ e⟩
    show 2 + wd.length ≤ _
    omega
  · refine ⟨SaidE X.K C Gap Q, fun cls d σ' H' ⟨Dc, j, wd, e1, e2, KO, hw, n1, ex, qq⟩ hl => ?_, rfl, hc, h⟩
    obtain ⟨x, y, rfl⟩ : ∃ x y, σ' = [x, y] := by
      match σ', hl with
      | [x, y], _ => exact ⟨x, y, rfl⟩
    rw [e1]
    exact ⟨true, ex, fun _ a ha => ⟨⟨_, _, rfl⟩, rfl, Dc, j, wd, rfl, e2, KO, hw, n1, qq⟩, fun z => nomatch z⟩
end Sg
set_option Elab.async false
set_option linter.all false
set_option maxRecDepth 100000
set_option maxHeartbeats 4000000
namespace Sg
open PySem PySem.Spec PyProof.Rows L2
section
variable {P : Program} {w : World} {K : PySem.W.Frag} {mg : Str → Option Value} {base : Heap}
/-! ### _law_mixed -/
def spMixed (K : PySem.W.Frag) : Sp := fun vs H Q _ => ∃ (p l : Addr) (ns : List Int), vs = [.ref p, .ref l] ∧ PenAt H p ∧ l ≠ p ∧ H l = some (.lst (ns.map V.int)) ∧ ns.length ≤ 1000 ∧
  ∀ H' q (ms : List Int), PenAt H' p → But p H H' → H q = none → H' q = some (.lst (ms.map V.int)) → ms.length = ns.length → (∀ x ∈ ms, x ∈ ns) → Q (.ref q) H'
theorem ok_mixed {f f1 : Addr} {fd fd1 : FuncData} {k : Nat} (F : Fun K "_law_mixed" "_law_mixed" s_l_mixed f fd)
    (G1 : FnOk P w K mg base CX0 k f1 fd1 ["_law_pen_here", "_law_many"] spDraw) (kp1 : PySem.W.keepIn K (.ref f1) = true) (b1 : Binds K fd1 ["_law_pen_here", "_law_many"] []) (g1 : mg "_law_draw" = some (.ref f1))
    (m1 : mg "list" = none) (m2 : mg "range" = none) (m3 : mg "len" = none) : FnOk P w K mg base CX0 (k + 1) f fd ["_law_pen_here", "_law_values"] (spMixed K) := by
  refine F.ok sc_l_mixed (fun vs H Q E h => ?_) (fun cdv A outer s H vs Q E hr h => ?_)
  · obtain ⟨p, l, ns, rfl, _⟩ := h; rfl
  · obtain ⟨p, l, ns, rfl, hp, nlp, hl, hz, q⟩ := h
    refine ⟨_, pss_cons (ps_par (i := 2) (j := 3) (by rfl) sc_l_mixed.nd rfl rfl (by decide) rfl rfl (pa_cons (pe_callTy (call_list_of) (by rfl) m1 (by decide +kernel) (pa_cons (pv 1) pa_nil)) (pa_cons (pe_lst pa_nil) pa_nil)) (by rfl))
      (pss_cons (ps_for PassesOwn.never rfl (pi_range1 (by rfl) m2 (pa_cons (pe_callB call_len_seq (by rfl) m3 PySem.boot_len (pa_cons (pv 1) pa_nil)) pa_nil)) (pg_name (i := 4) sc_l_mixed.nd rfl (.inl rfl))
        (pss_one (ps_expr (pe_bm PySem.F.plainAttrs_list PySem.F.slot_list_append PySem.F.type_list_append mt_append (pv 3)
          (pa_cons (pe_bm PySem.F.plainAttrs_list PySem.F.slot_list_pop PySem.F.type_list_pop mt_popAt (pv 2)
            (pa_cons (pe_call G1 hr (by rfl) g1 kp1 b1 .nil pass0 (pa_cons (pv 0) (pa_cons (pe_callB call_len_seq (by rfl) m3 PySem.boot_len (pa_cons (pv 2) pa_nil)) pa_nil))) pa_nil)) pa_nil)))))
      (pss_one (ps_ret (pv 3)))), ?_⟩
    refine ⟨.ref l, rfl, l, _, rfl, .inl (.of hl), fun L nL => ?_⟩
    have hL0 : (upd H L (.lst (ns.map V.int))) L = some (.lst (ns.map V.int)) := upd_same
    have e0 : Same H (upd H L (.lst (ns.map V.int))) := same_new nL
    have p0 := hp.new (o := .lst (ns.map V.int)) nL
    have nLp : L ≠ p := (hp.ne nL).symm
    generalize upd H L (.lst (ns.map V.int)) = H1 at hL0 e0 p0 ⊢
    refine ⟨by show 0 ≤ sizeLine; decide, fun F0 nF => ?_⟩
    have hF0 : (upd H1 F0 (.lst [])) F0 = some (.lst []) := upd_same
    have e1 : Same H1 (upd H1 F0 (.lst [])) := same_new nF
    have p1 := p0.new (o := .lst []) nF
    have nFp : F0 ≠ p := (p0.ne nF).symm
    have nFL : L ≠ F0 := ne_of_none hL0 nF
    have nFH : H F0 = none := hp.free p0 (.of e0) nF
    have hL1 := e1 _ _ hL0
    generalize upd H1 F0 (.lst []) = H2 at hF0 e1 p1 hL1 ⊢
    refine ⟨_, _, rfl, .ref l, rfl, l, _, rfl, .inl (.of (e1 _ _ (e0 _ _ hl))), _, rfl, by omega, ?_, ?_⟩
    · rw [List.length_map]; omega
    refine for_range (lo := 0) (n := (((ns.map V.int).length : Nat) : Int).toNat) (fun i σ H' => ∃ v4, σ = [some (.ref p), some (.ref l), some (.ref L), some (.ref F0), v4] ∧ PenAt H' p ∧ But p H H' ∧
        ∃ ls fs : List Int, H' L = some (.lst (ls.map V.int)) ∧ H' F0 = some (.lst (fs.map V.int)) ∧ ls.length + i = ns.length ∧ fs.length = i ∧ (∀ x ∈ ls, x ∈ ns) ∧ (∀ x ∈ fs, x ∈ ns))
      ⟨_, rfl, p1, .of (e0.trans e1), ns, [], hL1, hF0, rfl, rfl, fun _ h => h, fun x hx => nomatch hx⟩ ?_ ?_
    · rintro i σ H3 hi ⟨v4, rfl, p3, b3, ls, fs, hL3, hF3, l1, l2, i1, i2⟩
      have hlt : i < ns.length := by rw [Int.toNat_natCast, List.length_map] at hi; exact hi
      have lenL : (ls.map V.int).length = ls.length := List.length_map _
      refine ⟨.ref F0, rfl, .inl ⟨rfl, _, .of hF3⟩, .ref L, rfl, .inl ⟨rfl, _, .of hL3⟩, .ref p, rfl, .ref L, rfl, L, _, rfl, .inl (.of hL3), p, _, rfl, p3, by rw [lenL]; omega, by rw [lenL]; omega, fun H4 r r0 r1 p4 b4 => ?_⟩
      rw [lenL] at r1
      obtain ⟨j, rfl⟩ : ∃ j : Nat, r = j := ⟨r.toNat, by omega⟩
      have hj : j < ls.length := by omega
      have hL4 := b4 _ _ nLp hL3
      have hF4 := b4 _ _ nFp hF3
      have gj : (ls.map V.int)[j]? = some (.int ls[j]) := by rw [List.getElem?_map, List.getElem?_eq_getElem hj]; rfl
      refine ⟨L, _, (j : Int), j, .int ls[j], rfl, rfl, hL4, by omega, by omega, (ixN_seq (ixN_nat (by rw [lenL]; exact hj))).1, gj, ?_⟩
      have hF5 : (upd H4 L (.lst ((ls.map V.int).eraseIdx j))) F0 = some (.lst (fs.map V.int)) := by rw [upd_ne nFL.symm]; exact hF4
      refine ⟨F0, _, _, rfl, rfl, hF5, ?_, ?_⟩
      · rw [List.length_map]; exact small1000 (by omega)
      refine ⟨_, rfl, (p4.upd nLp.symm).upd nFp.symm, ?_, ls.eraseIdx j, fs ++ [ls[j]], ?_, ?_, ?_, ?_, fun x hx => i1 x (List.mem_of_mem_eraseIdx hx), fun x hx => ?_⟩
      · intro b o nb e
        have z := b4 _ _ nb (b3 _ _ nb e)
        have z1 : b ≠ F0 := ne_of_none e nFH
        have z2 : b ≠ L := ne_of_none e nL
        rw [upd_ne z1, upd_ne z2]
        exact z
      · rw [upd_ne nFL, upd_same, eraseIdx_map]
      · rw [upd_same, List.map_append]; rfl
      · rw [List.length_eraseIdx_of_lt hj]; omega
      · rw [List.length_append]; show fs.length + 1 = i + 1; omega
      · rcases List.mem_append.mp hx with z | z
        · exact i2 x z
        · rw [List.mem_singleton.mp z]; exact i1 _ (List.getElem_mem hj)
    · rintro σ H3 ⟨v4, rfl, p3, b3, ls, fs, hL3, hF3, l1, l2, i1, i2⟩
      rw [Int.toNat_natCast, List.length_map] at l2
      exact ⟨.ref F0, rfl, q _ _ fs p3 b3 nFH hF3 l2 i2⟩
end
end Sg
set_option Elab.async false
set_option linter.all false
set_option maxRecDepth 100000
set_option maxHeartbeats 4000000
namespace Sg
open PySem PySem.Spec PyProof.Rows L2 StX
theorem len2 {α : Type} {us : List α} (h : us.length = 2) : ∃ a b, us = [a, b] := by
  match us, h with
  | [a, b], _ => exact ⟨a, b, rfl⟩
end Sg
set_option Elab.async false
set_option linter.all false
set_option maxRecDepth 100000
set_option maxHeartbeats 4000000
namespace Sg
open PySem PySem.Spec PyProof.Rows L2 StX
open TL (tl tl_append numL)
theorem snocI {α : Type} {P : List α → Prop} (nil : P []) (snoc : ∀ l a, P l → P (l ++ [a])) (l : List α) : P l := by
  rw [← List.reverse_reverse l]
  generalize l.reverse = m
  induction m with
  | nil => exact nil
  | cons a m ih => rw [List.reverse_cons]; exact snoc _ a ih
def dashS : Str := ("-" : Str)
def gapS : Str := (" " : Str)
theorem tl_dash : tl dashS = [45] := by decide +kernel
theorem tl_gap : tl gapS = [32] := by decide +kernel
theorem num_tl (n : Nat) : tl (num ((n : Nat) : Int)) = numL n := TL.tl_num n
theorem numL_no45 (n : Nat) : 45 ∉ numL n := TL.numL_free (.inl (by decide))
theorem num_ne_dash (n : Nat) : num ((n : Nat) : Int) ≠ dashS := fun e => by
  have e' := congrArg tl e
  rw [num_tl, tl_dash] at e'
  exact numL_no45 n (by rw [e']; exact List.mem_singleton.mpr rfl)
/-! ### digits without a zero ahead -/
def NoZ (l : List Nat) : Prop := l ≠ [] ∧ (∀ c ∈ l, 48 ≤ c ∧ c ≤ 57) ∧ (l.head? = some 48 → l = [48])
theorem numL_head : ∀ n : Nat, 0 < n → (numL n).head? ≠ some 48 := by
  intro n
  induction n using Nat.strongRecOn with
  | _ n ih =>
    intro h
    by_cases hl : n < 10
    · rw [TL.numL_lt hl]
      intro z
      have := Option.some.inj z
      omega
    · rw [TL.numL_step (by omega)]
      have h2 := ih (n / 10) (by omega) (by omega)
      have h3 := TL.numL_ne (n / 10)
      cases e : numL (n / 10) with
      | nil => exact absurd e h3
      | cons c r => rw [e] at h2; exact h2
theorem numL_noZ (n : Nat) : NoZ (numL n) := by
  refine ⟨TL.numL_ne n, TL.numL_digits n, fun h => ?_⟩
  by_cases hn : 0 < n
  · exact absurd h (numL_head n hn)
  · obtain rfl : n = 0 := by omega
    rw [TL.numL_lt (by decide)]
theorem noZ_num : ∀ l : List Nat, NoZ l → ∃ n : Nat, l = numL n := by
  refine snocI (fun h => absurd rfl h.1) fun l c ih h => ?_
  obtain ⟨h1, h2, h3⟩ := h
  have hc := h2 c (List.mem_append.mpr (.inr (List.mem_singleton.mpr rfl)))
  cases l with
  | nil => exact ⟨c - 48, by rw [TL.numL_lt (by omega)]; show [c] = _; congr 1; omega⟩
  | cons a r =>
    have ha : a ≠ 48 := fun z => by
      have := h3 (by rw [z]; rfl)
      simp at this
    obtain ⟨m, hm⟩ := ih ⟨by simp, fun x hx => h2 x (List.mem_append.mpr (.inl hx)), fun z => absurd (Option.some.inj z) ha⟩
    have m0 : 0 < m := by
      rcases Nat.eq_zero_or_pos m with z | z
      · rw [z, TL.numL_lt (by decide)] at hm
        exact absurd (List.cons.inj hm).1 ha
      · exact z
    refine ⟨m * 10 + (c - 48), ?_⟩
    rw [TL.numL_step (by omega), hm]
    have e1 : (m * 10 + (c - 48)) / 10 = m := by omega
    have e2 : 48 + (m * 10 + (c - 48)) % 10 = c := by omega
    rw [e1, e2]
/-! ### what a word of a text is -/
open Classical in
noncomputable def numN (t : Str) : Option Int := if h : ∃ n : Nat, tl t = numL n then some ((h.choose : Nat) : Int) else none
theorem numN_num (n : Nat) : numN (num ((n : Nat) : Int)) = some ((n : Nat) : Int) := by
  unfold numN
  have h : ∃ m : Nat, tl (num ((n : Nat) : Int)) = numL m := ⟨n, num_tl n⟩
  rw [dif_pos h]
  have e2 : numL n = numL h.choose := (num_tl n).symm.trans h.choose_spec
  exact congrArg (fun k : Nat => some (k : Int)) (TL.numL_inj e2).symm
theorem numN_no {t : Str} (h2 : ∀ n : Nat, tl t ≠ numL n) : numN t = none := by
  unfold numN
  rw [dif_neg fun ⟨n, h⟩ => h2 n h]
open Classical in
noncomputable def partN (t : Str) : Option Int := if t = dashS then some (-1) else numN t
theorem partN_dash : partN dashS = some (-1) := by unfold partN; rw [if_pos rfl]
theorem partN_ne {t : Str} (h : t ≠ dashS) : partN t = numN t := by unfold partN; rw [if_neg h]
theorem partN_num (n : Nat) : partN (num ((n : Nat) : Int)) = some ((n : Nat) : Int) := by rw [partN_ne (num_ne_dash n), numN_num]
theorem partN_no {t : Str} (h1 : t ≠ dashS) (h2 : ∀ n : Nat, tl t ≠ numL n) : partN t = none := by rw [partN_ne h1, numN_no h2]
theorem partN_cases (t : Str) : (t = dashS ∧ partN t = some (-1)) ∨ (∃ n : Nat, t = num ((n : Nat) : Int) ∧ partN t = some ((n : Nat) : Int)) ∨ (t ≠ dashS ∧ (∀ n : Nat, tl t ≠ numL n) ∧ partN t = none) := by
  by_cases h : t = dashS
  · rw [h]; exact .inl ⟨rfl, partN_dash⟩
  by_cases h2 : ∃ n : Nat, tl t = numL n
  · obtain ⟨n, hn⟩ := h2
    have e : t = num ((n : Nat) : Int) := TL.ext_tl (hn.trans (num_tl n).symm)
    exact .inr (.inl ⟨n, e, by rw [e]; exact partN_num n⟩)
  · exact .inr (.inr ⟨h, fun n z => h2 ⟨n, z⟩, partN_no h fun n z => h2 ⟨n, z⟩⟩)
def vN : Option Int → V
  | some i => .int i
  | none => .non
def dN : Option Int → PyData
  | some i => .int i
  | none => .none
theorem dpN {K : PySem.W.Frag} {H : Hp} (o : Option Int) : Dp K H (vN o) (dN o) := by
  cases o with
  | none => exact .non
  | some i => exact .int i
theorem dpNs {K : PySem.W.Frag} {H : Hp} : ∀ os : List (Option Int), DpAll K H (os.map vN) (os.map dN)
  | [] => .nil
  | o :: os => .cons (dpN o) (dpNs os)
/-- the words of a text, and the items that they are -/
def wordsT (t : Str) : List Str := Txt.split t gapS
noncomputable def itemsT (t : Str) : List (Option Int) := (wordsT t).map partN
noncomputable def itemsD (t : Str) : PyData := .tuple ((itemsT t).map dN)
/-- a word that the law takes: - or a number up to m -/
def okW (m : Int) (w : Str) : Prop := ∃ x, partN w = some x ∧ -1 ≤ x ∧ x ≤ m
theorem all_some : ∀ {os : List (Option Int)}, (∀ o ∈ os, ∃ x, o = some x) → ∃ ns : List Int, os = ns.map some
  | [], _ => ⟨[], rfl⟩
  | o :: os, h => by
    obtain ⟨x, rfl⟩ := h o List.mem_cons_self
    obtain ⟨ns, rfl⟩ := all_some fun o' ho => h o' (List.mem_cons_of_mem _ ho)
    exact ⟨x :: ns, rfl⟩
theorem items_words {t : Str} {m : Int} {ns : List Int} (h : itemsT t = ns.map some) (b : ∀ x ∈ ns, -1 ≤ x ∧ x ≤ m) : ∀ w ∈ wordsT t, okW m w := fun w hw => by
  have hm : partN w ∈ itemsT t := List.mem_map.mpr ⟨w, hw, rfl⟩
  rw [h] at hm
  obtain ⟨x, hx, e⟩ := List.mem_map.mp hm
  exact ⟨x, e.symm, b x hx⟩
theorem dN_ints : ∀ {os : List (Option Int)} {ns : List Int}, os.map dN = iD ns → os = ns.map some
  | [], [], _ => rfl
  | [], _ :: _, h => nomatch h
  | _ :: _, [], h => nomatch h
  | o :: os, n :: ns, h => by
    obtain ⟨h1, h2⟩ := List.cons.inj h
    cases o with
    | none => exact nomatch h1
    | some x =>
      have : x = n := PyData.int.inj h1
      rw [this, dN_ints h2]; rfl
theorem ints_dN (ns : List Int) : (ns.map some).map dN = iD ns := by
  rw [List.map_map]; rfl
theorem items_iff {t : Str} {ns : List Int} : itemsD t = tD ns ↔ itemsT t = ns.map some :=
  ⟨fun h => dN_ints (PyData.tuple.inj h), fun h => by unfold itemsD; rw [h, ints_dN]⟩
/-! ### the sizes and signs of words -/
def OkT (n : Nat) (t : Str) : Prop := t.length ≤ n ∧ ∀ c ∈ tl t, c < 16 ^ 8
theorem joinL_len {s : Nat} : ∀ l : List (List Nat), l ≠ [] → (TL.joinL [s] l).length + 1 = (l.map fun w => w.length + 1).sum
  | [a], _ => by show a.length + 1 = _; simp
  | a :: b :: r, _ => by
    show (a ++ ([s] ++ TL.joinL [s] (b :: r))).length + 1 = _
    have := joinL_len (s := s) (b :: r) (by simp)
    rw [List.length_append, List.length_append, List.map_cons, List.sum_cons, ← this]
    simp only [List.length_singleton]
    omega
/-- a mark of one sign -/
structure Mark (m : Str) (c : Nat) : Prop where
  tl : TL.tl m = [c]
  ne : Txt.split ("" : Str) m ≠ []
  len : (m.length == 0) = false
def colonS : Str := (":" : Str)
def lineS : Str := ("\n" : Str)
theorem gapM : Mark gapS 32 := ⟨by decide +kernel, by decide +kernel, by decide +kernel⟩
theorem colonM : Mark colonS 58 := ⟨by decide +kernel, by decide +kernel, by decide +kernel⟩
theorem lineM : Mark lineS 10 := ⟨by decide +kernel, by decide +kernel, by decide +kernel⟩
section
variable {m : Str} {c : Nat}
theorem split_join (M : Mark m c) (t : Str) : TL.joinL [c] ((Txt.split t m).map tl) = tl t := by
  have h := StrLaws.join_split t m
  have h2 := TL.tl_join m (Txt.split t m)
  rw [M.tl] at h2
  rw [← h2]
  exact congrArg tl h
theorem split_ne (M : Mark m c) (t : Str) : Txt.split t m ≠ [] := fun h => by
  have e := split_join M t
  rw [h] at e
  have e0 : t = ("" : Str) := TL.ext_tl e.symm
  rw [e0] at h
  exact M.ne h
theorem split_sum (M : Mark m c) (t : Str) : ((Txt.split t m).map fun w => w.length + 1).sum = t.length + 1 := by
  have h := joinL_len (s := c) ((Txt.split t m).map tl) (fun z => split_ne M t (List.map_eq_nil_iff.mp z))
  rw [split_join M, List.map_map] at h
  rw [TL.len_tl, h]
  congr 1
theorem split_len (M : Mark m c) (t : Str) : (Txt.split t m).length ≤ t.length + 1 := by
  have h := split_sum M t
  have : ∀ l : List Str, l.length ≤ (l.map fun w => w.length + 1).sum := by
    intro l
    induction l with
    | nil => exact Nat.zero_le _
    | cons a l ih => rw [List.map_cons, List.sum_cons, List.length_cons]; omega
  have := this (Txt.split t m)
  omega
theorem split_word (M : Mark m c) {t w : Str} (h : w ∈ Txt.split t m) : w.length ≤ t.length := by
  have hs := split_sum M t
  have : ∀ l : List Str, w ∈ l → w.length + 1 ≤ (l.map fun w => w.length + 1).sum := by
    intro l
    induction l with
    | nil => exact fun h => nomatch h
    | cons a l ih =>
      intro h
      rw [List.map_cons, List.sum_cons]
      rcases List.mem_cons.mp h with rfl | h
      · omega
      · have := ih h; omega
  have := this _ h
  omega
end
theorem words_ne (t : Str) : wordsT t ≠ [] := split_ne gapM t
theorem words_len (t : Str) : (wordsT t).length ≤ t.length + 1 := split_len gapM t
theorem word_len {t w : Str} (h : w ∈ wordsT t) : w.length ≤ t.length := split_word gapM h
theorem OkT.le {n m : Nat} {t : Str} (h : OkT n t) (e : n ≤ m) : OkT m t := ⟨Nat.le_trans h.1 e, h.2⟩
theorem OkT.app {n m : Nat} {t u : Str} (h : OkT n t) (g : OkT m u) : OkT (n + m) (t ++ u) := by
  refine ⟨?_, fun c hc => ?_⟩
  · rw [TL.len_tl, tl_append, List.length_append, ← TL.len_tl, ← TL.len_tl]
    have := h.1; have := g.1; omega
  · rw [tl_append] at hc
    exact (List.mem_append.mp hc).elim (h.2 c) (g.2 c)
def okTB (n : Nat) (t : Str) : Bool := decide (t.length ≤ n) && (tl t).all fun c => decide (c < 16 ^ 8)
theorem okT_by {n : Nat} {t : Str} (h : okTB n t = true) : OkT n t := by
  obtain ⟨h1, h2⟩ := Bool.and_eq_true_iff.mp h
  exact ⟨of_decide_eq_true h1, fun c hc => of_decide_eq_true (List.all_eq_true.mp h2 c hc)⟩
theorem OkT.good {n : Nat} {t : Str} (h : OkT n t) (e : n ≤ 300000) : SmL (n + 1) [.str t] := by
  refine ⟨by simp only [PyData.showableAll, PyData.showable, Bool.and_self], by simp only [PyData.depthAll, PyData.depth]; omega, ?_, ?_⟩
  · simp only [PyData.leavesShortAll, PyData.leavesShort, Bool.and_true]
    exact List.all_eq_true.mpr fun c hc => decide_eq_true (h.2 c hc)
  · simp only [PyData.bulkAll, PyData.bulk]
    have : t.cps.size = t.length := rfl
    have := h.1
    omega
end Sg
set_option Elab.async false
set_option linter.all false
set_option maxRecDepth 100000
set_option maxHeartbeats 4000000
namespace Sg
open PySem PySem.Spec PyProof.Rows L2 StX
open TL (tl tl_append numL)
def digitsS : Str := ("0123456789" : Str)
theorem tl_digits : digitsS.cps.toList = [48, 49, 50, 51, 52, 53, 54, 55, 56, 57] := by decide +kernel
theorem mem_digits (c : Nat) : c ∈ digitsS.cps.toList ↔ 48 ≤ c ∧ c ≤ 57 := by
  rw [tl_digits]
  simp only [List.mem_cons, List.not_mem_nil, or_false]
  omega
theorem isB_strT (t : Str) : isB "str" (.str t) = true := by
  show isS "str" "str" = true
  decide +kernel
theorem Lp.str_inv {K : PySem.W.Frag} {C : Addr} {H : Hp} {v : V} {t : Str} (h : Lp K C H v (.str t)) : v = .str t := by
  cases h; rfl
section
variable {P : Program} {w : World} {K : PySem.W.Frag} {mg : Str → Option Value} {base : Heap}
/-! ### _require_text, of anything -/
def spReqTextL (K : PySem.W.Frag) (C Cx : Addr) : Sp := fun vs H Q E => ∃ v d, vs = [v] ∧ Lp K C H v d ∧ (isB "str" d = true → Q .non H) ∧ (isB "str" d = false → E (.ref Cx) none H)
theorem ok_require_textL {f C Cx : Addr} {fd : FuncData} {k : Nat} (LK : LineKit K C) (F : Fun K "_require_text" "_require_text" s_require_text f fd) (R : Err K mg "NoText" Cx) (m1 : mg "isinstance" = none) (m2 : mg "str" = none) :
    FnOk P w K mg base (L2.CX P w) (k + 1) f fd ["thing"] (spReqTextL K C Cx) := by
  refine F.okX sc_require_text (fun vs H Q E h => ?_) (fun cdv A outer s H vs Q E hr h => ?_)
  · obtain ⟨v, d, rfl, _⟩ := h; rfl
  · obtain ⟨v, d, rfl, hd, q1, q2⟩ := h
    refine ⟨_, pss_one (ps_if (pt_not (pt_val (pe_callB (call_isiL (K := K) rfl LK) (by rfl) m1 (by decide +kernel) (pa_cons (pv 0) (pa_cons (pe_bltn (v := .ty "str") (by rfl) m2 (by decide +kernel) rfl) pa_nil)))))
      (pss_one (ps_raise rfl (takes_of rfl rfl rfl rfl) (pmk_own PySem.F.excBase_ValueError R.x R.g R.k (raises_own R.b R.t) rfl))) pss_nil), ?_⟩
    refine ⟨v, rfl, v, d, "str", rfl, hd, .inr (.inr (.inr (.inl rfl))), isB "str" d, rfl, ?_⟩
    cases h : isB "str" d with
    | true => exact iteF (q1 h)
    | false => exact iteT (q2 h)
/-! ### _read_number, of any text -/
def spReadNumT : Sp := fun vs H Q _ => ∃ t : Str, vs = [.str t] ∧ t.length ≤ 640 ∧ ∀ H', Same H H' → Q (vN (numN t)) H'
theorem ok_read_numberT {f : Addr} {fd : FuncData} {k : Nat} (F : Fun K "_read_number" "_read_number" s_read_number f fd) (hD : ∃ t, mg "DIGITS" = some (.str ("0123456789" : Str) t)) (m1 : mg "all" = none) (m2 : mg "int" = none) :
    FnOk P w K mg base CX0 (k + 1) f fd ["text"] spReadNumT := by
  obtain ⟨tD, nD⟩ := hD
  refine F.ok sc_read_number (fun vs H Q E h => ?_) (fun cdv A outer s H vs Q E hr h => ?_)
  · obtain ⟨t, rfl, _⟩ := h; rfl
  · obtain ⟨t, rfl, hlen, q⟩ := h
    refine ⟨_, pss_cons (ps_if (PW.pt (pw_or (pt_cmpR op_eq (pv 0) pe_str (nomark _)) (pw_or1 (pt_not (pt_val (pe_callB (cr_all rfl) (by rfl) m1 (by decide +kernel) (pa_cons
          (pe_lc (own := [("sign", 1)]) (g := gName 1) (tt := tYes) rfl sc_read_number.nd (pi_str (pv 0)) (blkOk_by (N := ["text", "sign"]) (sc := defScope s_read_number) (by decide +kernel))
            (fun _ _ _ _ _ => pg_name (i := 1) sc_read_number.nd rfl (Or.inl rfl)) (fun _ _ _ _ _ => pts_nil)
            (fun _ _ _ _ _ => pe_cmpR op_in_sign (pv 1) (pe_glob (v := .str ("0123456789" : Str)) (by rfl) nD ⟨_, rfl⟩) (by rfl))) pa_nil))))))) (pss_one (ps_ret pe_non)) pss_nil)
      (pss_cons (ps_if (PW.pt (pw_and (pt_cmpR op_eq (pe_ix ix_str (pv 0) pe_int (fun _ _ => rfl)) pe_str (nomark _)) (pw_and1 (pt_cmpR op_ne (pv 0) pe_str (nomark _))))) (pss_one (ps_ret pe_non)) pss_nil)
      (pss_one (ps_ret (pe_callTy call_int_str (by rfl) m2 (by decide +kernel) (pa_cons (pv 0) pa_nil))))), ?_⟩
    have none_of : (∀ n : Nat, tl t ≠ numL n) → ∀ H', Same H H' → Q .non H' := fun h H' e => by
      have := q H' e
      rw [numN_no h] at this
      exact this
    refine ⟨.str t, rfl, rfl, _, rfl, ?_⟩
    by_cases te : t = ("" : Str)
    · rw [show decide (V.str t = V.str ("" : Str)) = true from decide_eq_true (by rw [te])]
      refine iteT (iteT (none_of (fun n h => ?_) H (same_refl H)))
      rw [te] at h
      exact TL.numL_ne n h.symm
    rw [show decide (V.str t = V.str ("" : Str)) = false from decide_eq_false fun z => te (V.str.inj z)]
    refine iteF ⟨.str t, rfl, t, rfl, fun D hD => ?_⟩
    refine lc_it walk_str (fun i H' => Same H H' ∧ H' D = some (.lst (((tl t).take i).map fun c => V.bl (decide (c ∈ digitsS.cps.toList))))) ⟨same_new hD, upd_same⟩ (fun _ _ _ _ => trivial) (fun i y H' H'' hi h hy => ?_) (fun H' h => ?_)
    · obtain ⟨rfl, c, hc, rfl⟩ := hy
      have hc' : (tl t)[i]? = some c := by
        rw [← Array.getElem?_toList] at hc
        exact hc
      refine ⟨rfl, .str ⟨#[c]⟩, rfl, c, ("0123456789" : Str), rfl, rfl, ?_⟩
      refine ⟨_, h.2, ?_, fun y o e => ?_, ?_⟩
      · rw [List.length_map, List.length_take]
        have : t.length = (tl t).length := TL.len_tl t
        exact small1000 (by omega)
      · rw [upd_ne (ne_of_none e hD)]
        exact h.1 _ _ e
      · rw [upd_same, List.take_add_one, hc', List.map_append]
        rfl
    · have lt : (tl t).take t.cps.size = tl t := by
        refine List.take_of_length_le ?_
        rw [← TL.len_tl]
        exact Nat.le_refl _
      rw [lt] at h
      refine ⟨D, (tl t).map fun c => decide (c ∈ digitsS.cps.toList), rfl, .of (by rw [List.map_map]; exact h.2), ?_⟩
      cases hall : ((tl t).map fun c => decide (c ∈ digitsS.cps.toList)).all id with
      | false =>
        refine ⟨false, rfl, iteT (none_of (fun n e => ?_) H' h.1)⟩
        have : ((tl t).map fun c => decide (c ∈ digitsS.cps.toList)).all id = true := by
          rw [List.all_map, e]
          exact List.all_eq_true.mpr fun c hc => decide_eq_true ((mem_digits c).mpr (TL.numL_digits n c hc))
        rw [hall] at this
        exact nomatch this
      | true =>
        refine ⟨true, rfl, iteF ?_⟩
        rw [List.all_map] at hall
        have dg : ∀ c ∈ tl t, 48 ≤ c ∧ c ≤ 57 := fun c hc => (mem_digits c).mp (of_decide_eq_true (List.all_eq_true.mp hall c hc))
        obtain ⟨c, r, hcr⟩ : ∃ c r, tl t = c :: r := by
          cases e : tl t with
          | nil => exact absurd (TL.ext_tl e) te
          | cons c r => exact ⟨c, r, rfl⟩
        have lz : t.length ≤ sizeLine := Nat.le_of_lt (small1000 (by omega))
        have last : (c = 48 → t = ("0" : Str)) → ∃ v : V, some (some (V.str t)) = some (some v) ∧ ∃ (a : Str) (n : Int), [v] = [V.str a] ∧ intText? a = some n ∧ a.length ≤ 640 ∧ Q (.int n) H' := fun hz => by
          have nz : NoZ (tl t) := ⟨by rw [hcr]; simp, dg, fun h0 => by
            rw [hcr] at h0
            have := hz (Option.some.inj h0)
            rw [this]; decide +kernel⟩
          obtain ⟨n, hn⟩ := noZ_num _ nz
          have et : t = num ((n : Nat) : Int) := TL.ext_tl (hn.trans (num_tl n).symm)
          refine ⟨_, rfl, t, (n : Int), rfl, ?_, hlen, ?_⟩
          · rw [et]
            refine TL.int_num ?_
            rw [← hn, ← TL.len_tl]; omega
          · have := q H' h.1
            rw [et, numN_num] at this
            exact this
        refine ⟨.str t, rfl, t, 0, c, rfl, rfl, lz, ?_, rfl, _, rfl, ite2 (fun z => ?_) (fun z => ?_)⟩
        · rw [show t.cps.toList = c :: r from hcr]
          exact atI_nat (j := 0) rfl
        · have hc48 : c = 48 := by
            have z' := congrArg tl (V.str.inj (of_decide_eq_true z))
            have e0 : tl (("0" : Str)) = [48] := by decide +kernel
            rw [e0] at z'
            exact (List.cons.inj z').1
          refine ⟨.str t, rfl, rfl, _, rfl, ?_⟩
          by_cases t0 : t = ("0" : Str)
          · rw [show (!decide (V.str t = V.str ("0" : Str))) = false from by rw [decide_eq_true (by rw [t0])]; rfl]
            exact iteF (last fun _ => t0)
          · rw [show (!decide (V.str t = V.str ("0" : Str))) = true from by rw [decide_eq_false fun y => t0 (V.str.inj y)]; rfl]
            refine iteT (none_of (fun n e => ?_) H' h.1)
            have nz := numL_noZ n
            rw [← e, hcr] at nz
            have e1 := nz.2.2 (by rw [hc48]; rfl)
            rw [hc48] at hcr e1
            exact t0 (TL.ext_tl (hcr.trans (e1.trans (by decide +kernel))))
        · exact last fun hc => absurd (decide_eq_true (by rw [hc]; rfl)) z
/-! ### _read_items, of any text -/
def spReadItemsT (K : PySem.W.Frag) : Sp := fun vs H Q _ => ∃ t : Str, vs = [.str t] ∧ t.length ≤ 640 ∧
  ∀ H' r, Same H H' → H r = none → H' r = some (.tup ((itemsT t).map vN)) → Q (.ref r) H'
theorem ok_read_itemsT {f f1 : Addr} {fd fd1 : FuncData} {k : Nat} (F : Fun K "_read_items" "_read_items" s_read_items f fd) (hN : ∃ t, mg "NOWHERE" = some (.int (-1) t))
    (G1 : FnOk P w K mg base CX0 k f1 fd1 ["text"] spReadNumT) (kp1 : PySem.W.keepIn K (.ref f1) = true) (b1 : Binds K fd1 ["text"] []) (g1 : mg "_read_number" = some (.ref f1)) (m1 : mg "tuple" = none) :
    FnOk P w K mg base CX0 (k + 1) f fd ["text"] (spReadItemsT K) := by
  obtain ⟨tN, nN⟩ := hN
  refine F.ok sc_read_items (fun vs H Q E h => ?_) (fun cdv A outer s H vs Q E hr h => ?_)
  · obtain ⟨t, rfl, _⟩ := h; rfl
  · obtain ⟨t, rfl, hlen, q⟩ := h
    refine ⟨_, pss_one (ps_ret (pe_callTy call_tuple_of (by rfl) m1 (by decide +kernel) (pa_cons
        (pe_lc (own := [("part", 1)]) (g := gName 1) (tt := tYes) rfl sc_read_items.nd (pi_list (pe_split (pv 0) pe_str)) (blkOk_by (N := ["text", "part"]) (sc := defScope s_read_items) (by decide +kernel))
          (fun _ _ _ _ _ => pg_name (i := 1) sc_read_items.nd rfl (Or.inl rfl)) (fun _ _ _ _ _ => pts_nil)
          (fun _ _ _ _ _ => pe_ifExp (pt_cmpR op_eq (pv 1) pe_str (nomark _)) (pe_glob (v := .int (-1)) (by rfl) nN ⟨_, rfl⟩) (pe_call G1 hr (by rfl) g1 kp1 b1 .nil pass0 (pa_cons (pv 1) pa_nil)))) pa_nil))), ?_⟩
    have big : 1000000 ≤ sizeLine := by rw [sizeLine_eq]; decide
    refine ⟨.str t, rfl, ⟨_, rfl⟩, t, gapS, rfl, rfl, by decide +kernel, Nat.le_trans (by omega) big, fun p np => ?_⟩
    rw [show Txt.split t gapS = wordsT t from rfl]
    have hp : (upd H p (.lst ((wordsT t).map V.str))) p = some (.lst ((wordsT t).map V.str)) := upd_same
    have e0 : Same H (upd H p (.lst ((wordsT t).map V.str))) := same_new np
    generalize upd H p (.lst ((wordsT t).map V.str)) = H1 at hp e0 ⊢
    have wl := words_len t
    refine ⟨p, rfl, ⟨_, .of hp⟩, fun D hD => ?_⟩
    refine lc_list (xs := (wordsT t).map V.str) (fun i H' => Same H1 H' ∧ H' D = some (.lst (((itemsT t).take i).map vN))) ⟨same_new hD, upd_same⟩ (fun i H' _ h => .of (h.1 _ _ hp)) (fun i x H' hx h => ?_) (fun H' h => ?_)
    · rw [List.getElem?_map] at hx
      obtain ⟨z, hz, rfl⟩ := Option.map_eq_some_iff.mp hx
      have hin := (List.getElem?_eq_some_iff.mp hz).1
      have zl := word_len (List.mem_of_getElem? hz)
      have hzi : (itemsT t)[i]? = some (partN z) := by
        unfold itemsT
        rw [List.getElem?_map, hz]; rfl
      have fin : ∀ H'' : Hp, Same H' H'' → ∃ acc, H'' D = some (.lst acc) ∧ acc.length < sizeLine ∧ (Same H1 (L2.upd H'' D (.lst (acc ++ [vN (partN z)]))) ∧ (L2.upd H'' D (.lst (acc ++ [vN (partN z)]))) D = some (.lst (((itemsT t).take (i + 1)).map vN))) := by
        intro H'' e
        refine ⟨_, e _ _ h.2, ?_, fun y o e' => ?_, ?_⟩
        · rw [List.length_map, List.length_take]
          exact small1000 (by omega)
        · rw [upd_ne (ne_of_none e' hD)]
          exact e _ _ (h.1 _ _ e')
        · rw [upd_same, List.take_add_one, hzi, List.map_append]
          rfl
      refine ⟨rfl, .str z, rfl, rfl, _, rfl, ite2 (fun e => ?_) (fun e => ?_)⟩
      · have hc : z = dashS := V.str.inj (of_decide_eq_true e)
        have := fin H' fun _ _ h => h
        rw [hc, partN_dash] at this
        exact this
      · have nd : z ≠ dashS := fun y => e (decide_eq_true (by rw [y]; rfl))
        exact ⟨.str z, rfl, z, rfl, by omega, fun H'' e => by rw [← partN_ne nd]; exact fin H'' e⟩
    · have lt : (itemsT t).take ((wordsT t).map V.str).length = itemsT t := by
        refine List.take_of_length_le ?_
        unfold itemsT
        rw [List.length_map, List.length_map]
        exact Nat.le_refl _
      rw [lt] at h
      exact ⟨D, _, rfl, .inl ⟨.of h.2, fun l nl => q _ l (e0.trans (h.1.trans (same_new nl))) (freeS (e0.trans h.1) nl) upd_same⟩⟩
/-! ### _read_work, read_work, read_lap of anything -/
def spReadIn (K : PySem.W.Frag) (Cx : Addr) (R : PyData → Prop) : Sp := fun vs H Q E => ∃ t : Str, vs = [.str t] ∧ t.length ≤ 640 ∧
  (R (itemsD t) → ∀ H' r, Same H H' → H' r = some (.tup ((itemsT t).map vN)) → Q (.ref r) H') ∧ (¬ R (itemsD t) → ∀ H', Same H H' → E (.ref Cx) none H')
theorem ok_read_work_inT {f f1 f2 C Cx : Addr} {fd fd1 fd2 : FuncData} {k : Nat} (F : Fun K "_read_work" "_read_work" s_read_work_in f fd) (R : Err K mg "NoText" Cx)
    (G1 : FnOk P w K mg base CX0 k f1 fd1 ["text"] (spReadItemsT K)) (kp1 : PySem.W.keepIn K (.ref f1) = true) (b1 : Binds K fd1 ["text"] []) (g1 : mg "_read_items" = some (.ref f1))
    (G2 : FnOk P w K mg base CX0 k f2 fd2 ["thing"] (spIsWorkL K C)) (kp2 : PySem.W.keepIn K (.ref f2) = true) (b2 : Binds K fd2 ["thing"] []) (g2 : mg "is_work" = some (.ref f2)) :
    FnOk P w K mg base (L2.CX P w) (k + 1) f fd ["text"] (spReadIn K Cx WorkD) := by
  refine F.okX sc_read_work_in (fun vs H Q E h => ?_) (fun cdv A outer s H vs Q E hr h => ?_)
  · obtain ⟨t, rfl, _⟩ := h; rfl
  · obtain ⟨t, rfl, hlen, q1, q2⟩ := h
    refine ⟨_, pss_cons (ps_set (i := 1) sc_read_work_in.nd rfl (.inl rfl) (pe_call G1 hr (by rfl) g1 kp1 b1 .nil pass0 (pa_cons (pv 0) pa_nil)))
      (pss_cons (ps_if (pt_not (pt_val (pe_call G2 hr (by rfl) g2 kp2 b2 .nil pass0 (pa_cons (pv 1) pa_nil))))
        (pss_one (ps_raise rfl (takes_of rfl rfl rfl rfl) (pmk_own PySem.F.excBase_ValueError R.x R.g R.k (raises_own R.b R.t) rfl))) pss_nil)
      (pss_one (ps_ret (pv 1)))), ?_⟩
    refine ⟨.str t, rfl, t, rfl, hlen, fun H1 r e1 nr hr1 => ?_⟩
    refine ⟨.ref r, rfl, .ref r, itemsD t, rfl, .tup (.of hr1) (DpAll.lp (dpNs _)), fun H2 b e2 hb => ⟨b, rfl, ?_⟩⟩
    cases b with
    | true => exact iteF ⟨.ref r, rfl, q1 (hb.mp rfl) H2 r (e1.trans e2) (e2 _ _ hr1)⟩
    | false => exact iteT (q2 (fun z => nomatch hb.mpr z) _ (e1.trans e2))
/-! ### _greatest_line -/
def spReadT (K : PySem.W.Frag) (C Cx : Addr) (R : PyData → Prop) : Sp := fun vs H Q E => ∃ v d, vs = [v] ∧ Lp K C H v d ∧ ((isB "str" d = false ∧ ∀ H', Same H H' → E (.ref Cx) none H') ∨ ∃ t : Str, d = .str t ∧ t.length ≤ 640 ∧
  (R (itemsD t) → ∀ H' r, Same H H' → H' r = some (.tup ((itemsT t).map vN)) → Q (.ref r) H') ∧ (¬ R (itemsD t) → ∀ H', Same H H' → E (.ref Cx) none H'))
theorem ok_read_workT {f f1 f2 C Cx : Addr} {fd fd1 fd2 : FuncData} {k : Nat} (F : Fun K "read_work" "read_work" s_read_work f fd)
    (G1 : FnOk P w K mg base (L2.CX P w) k f1 fd1 ["thing"] (spReqTextL K C Cx)) (kp1 : PySem.W.keepIn K (.ref f1) = true) (b1 : Binds K fd1 ["thing"] []) (g1 : mg "_require_text" = some (.ref f1))
    (G2 : FnOk P w K mg base (L2.CX P w) k f2 fd2 ["text"] (spReadIn K Cx WorkD)) (kp2 : PySem.W.keepIn K (.ref f2) = true) (b2 : Binds K fd2 ["text"] []) (g2 : mg "_read_work" = some (.ref f2)) :
    FnOk P w K mg base (L2.CX P w) (k + 1) f fd ["text"] (spReadT K C Cx WorkD) := by
  refine F.okX sc_read_work (fun vs H Q E h => ?_) (fun cdv A outer s H vs Q E hr h => ?_)
  · obtain ⟨v, d, rfl, _⟩ := h; rfl
  · obtain ⟨v, d, rfl, hd, h⟩ := h
    refine ⟨_, pss_cons (ps_expr (pe_callS G1 hr (by rfl) g1 kp1 b1 (fun σ => passAt (takes_of rfl rfl rfl rfl) σ) (pa_cons (pv 0) pa_nil)))
      (pss_one (ps_ret (pe_callS G2 hr (by rfl) g2 kp2 b2 (fun σ => passAt (takes_of rfl rfl rfl rfl) σ) (pa_cons (pv 0) pa_nil)))), ?_⟩
    rcases h with ⟨h1, q⟩ | ⟨t, rfl, hlen, q1, q2⟩
    · exact ⟨v, rfl, v, d, rfl, hd, (fun z => by rw [h1] at z; exact nomatch z), fun _ => q _ (same_refl H)⟩
    · obtain rfl := hd.str_inv
      refine ⟨.str t, rfl, .str t, .str t, rfl, hd, (fun _ => ?_), fun z => by rw [isB_strT] at z; exact nomatch z⟩
      exact ⟨.str t, rfl, t, rfl, hlen, q1, q2⟩
/-! ### _greatest_line -/
def zeroW : List (List Int) := [[0], [0], [0]]
theorem zero_good : GoodL zeroW := ⟨by decide, by decide, fun w hw => by
  have e : w = [0] := by
    rcases List.mem_cons.mp hw with h | hw
    · exact h
    rcases List.mem_cons.mp hw with h | hw
    · exact h
    exact List.mem_singleton.mp hw
  subst e
  exact ⟨by decide, by decide, fun x hx => by rw [List.mem_singleton.mp hx]; decide, fun x hx => by rw [← Option.some.inj hx]; decide, fun x hx => by rw [← Option.some.inj hx]; decide⟩⟩
def spGreatest (K : PySem.W.Frag) (C : Addr) : Sp := fun vs H Q _ => vs = [] ∧ ∀ H' a, Same H H' → LineAt K C H' a zeroW → Q (.ref a) H'
theorem ok_greatest {f f1 C : Addr} {fd : FuncData} {k : Nat} (F : Fun K "_greatest_line" "_greatest_line" s_greatest_line f fd) (T : LC K mg C) (M : Mk K C f1) (G : FnR P w K mg base CX0 k f1 (spInit K C)) (hM : ∃ t, mg "MOST_WORKS" = some (.int 3 t)) :
    FnOk P w K mg base CX0 (k + 2) f fd [] (spGreatest K C) := by
  obtain ⟨tM, nM⟩ := hM
  refine F.ok sc_greatest_line (fun vs H Q E h => ?_) (fun cdv A outer s H vs Q E hr h => ?_)
  · obtain ⟨rfl, _⟩ := h; rfl
  · obtain ⟨rfl, q⟩ := h
    refine ⟨_, pss_cons (ps_set (i := 0) sc_greatest_line.nd rfl (.inl rfl) (pe_op op_repS (pe_tup (pa_cons (pe_tup (pa_cons pe_int pa_nil)) pa_nil)) (pe_glob (v := .int 3) (by rfl) nM ⟨_, rfl⟩)))
      (pss_one (ps_ret (pe_makeS M G hr (by rfl) T.mgC pass0 (pv 0)))), ?_⟩
    refine ⟨by show 1 ≤ sizeLine; decide, fun t nt => ⟨by show 1 ≤ sizeLine; decide, fun u nu => ?_⟩⟩
    refine ⟨u, 3, [.ref t], rfl, rfl, .of upd_same, (fun z => nomatch z), by decide, by show 1 ≤ 1000; decide, fun H1 v e1 hv => ?_⟩
    have et : H1 t = some (.tup [V.int 0]) := e1 _ _ (same_new nu _ _ upd_same)
    have eH : Same H H1 := (same_new nt).trans ((same_new nu).trans e1)
    have tt : Tp K H1 (.ref t) (tD [0]) := Tp.ofInts (.of et)
    exact ⟨.ref v, rfl, v, _, rfl, .inl hv, make_line (vs := [.ref t, .ref t, .ref t]) (ws := zeroW) (.on tt (.on tt (.on tt .no))) zero_good fun H2 a e2 _ hL => q H2 a (eH.trans e2) hL⟩
theorem bulk_dN : ∀ os : List (Option Int), PyData.bulkAll (os.map dN) = os.length
  | [] => rfl
  | o :: os => by
    rw [List.map_cons, List.length_cons]
    simp only [PyData.bulkAll]
    rw [bulk_dN os]
    cases o <;> simp only [dN, PyData.bulk] <;> omega
theorem bulk_items (t : Str) : (itemsD t).bulk ≤ t.length + 1 := by
  unfold itemsD
  simp only [PyData.bulk]
  rw [bulk_dN]
  unfold itemsT
  rw [List.length_map]
  exact words_len t
theorem ok_read_lapT {f f1 f2 f3 f4 C Cx : Addr} {fd fd1 fd2 fd3 fd4 : FuncData} {k : Nat} (F : Fun K "read_lap" "read_lap" s_read_lap f fd) (R : Err K mg "NoText" Cx)
    (G1 : FnOk P w K mg base (L2.CX P w) k f1 fd1 ["thing"] (spReqTextL K C Cx)) (kp1 : PySem.W.keepIn K (.ref f1) = true) (b1 : Binds K fd1 ["thing"] []) (g1 : mg "_require_text" = some (.ref f1))
    (G2 : FnOk P w K mg base CX0 k f2 fd2 ["text"] (spReadItemsT K)) (kp2 : PySem.W.keepIn K (.ref f2) = true) (b2 : Binds K fd2 ["text"] []) (g2 : mg "_read_items" = some (.ref f2))
    (G3 : FnOk P w K mg base CX0 k f3 fd3 [] (spGreatest K C)) (kp3 : PySem.W.keepIn K (.ref f3) = true) (b3 : Binds K fd3 [] []) (g3 : mg "_greatest_line" = some (.ref f3))
    (G4 : FnOk P w K mg base CX0 k f4 fd4 ["line", "thing"] (spIsLapL K C LapD)) (kp4 : PySem.W.keepIn K (.ref f4) = true) (b4 : Binds K fd4 ["line", "thing"] []) (g4 : mg "is_lap" = some (.ref f4)) :
    FnOk P w K mg base (L2.CX P w) (k + 1) f fd ["text"] (spReadT K C Cx (LapD 3)) := by
  refine F.okX sc_read_lap (fun vs H Q E h => ?_) (fun cdv A outer s H vs Q E hr h => ?_)
  · obtain ⟨v, d, rfl, _⟩ := h; rfl
  · obtain ⟨v, d, rfl, hd, h⟩ := h
    refine ⟨_, pss_cons (ps_expr (pe_callS G1 hr (by rfl) g1 kp1 b1 (fun σ => passAt (takes_of rfl rfl rfl rfl) σ) (pa_cons (pv 0) pa_nil)))
      (pss_cons (ps_set (i := 1) sc_read_lap.nd rfl (.inl rfl) (pe_call G2 hr (by rfl) g2 kp2 b2 .nil pass0 (pa_cons (pv 0) pa_nil)))
      (pss_cons (ps_if (pt_not (pt_val (pe_call G4 hr (by rfl) g4 kp4 b4 .nil pass0 (pa_cons (pe_call0 G3 hr (by rfl) g3 kp3 b3 .nil pass0) (pa_cons (pv 1) pa_nil)))))
        (pss_one (ps_raise rfl (takes_of rfl rfl rfl rfl) (pmk_own PySem.F.excBase_ValueError R.x R.g R.k (raises_own R.b R.t) rfl))) pss_nil)
      (pss_one (ps_ret (pv 1))))), ?_⟩
    rcases h with ⟨h1, q⟩ | ⟨t, rfl, hlen, q1, q2⟩
    · exact ⟨v, rfl, v, d, rfl, hd, (fun z => by rw [h1] at z; exact nomatch z), fun _ => q _ (same_refl H)⟩
    · obtain rfl := hd.str_inv
      refine ⟨.str t, rfl, .str t, .str t, rfl, hd, (fun _ => ?_), fun z => by rw [isB_strT] at z; exact nomatch z⟩
      refine ⟨.str t, rfl, t, rfl, hlen, fun H1 r e1 nr hr1 => ⟨rfl, fun H2 a e2 hL => ?_⟩⟩
      have hr2 := e2 _ _ hr1
      refine ⟨.ref r, rfl, a, .ref r, zeroW, itemsD t, rfl, hL, .tup (.of hr2) (DpAll.lp (dpNs _)), by have := bulk_items t; omega, fun H3 b e3 hb => ⟨b, rfl, ?_⟩⟩
      have e13 := (e1.trans e2).trans e3
      cases b with
      | true => exact iteF ⟨.ref r, rfl, q1 (hb.mp rfl) H3 r e13 (e3 _ _ hr2)⟩
      | false => exact iteT (q2 (fun z => nomatch hb.mpr z) _ e13)
end
end Sg
set_option Elab.async false
set_option linter.all false
set_option maxRecDepth 100000
set_option maxHeartbeats 4000000
namespace Sg
open PySem PySem.Spec PyProof.Rows L2 StX
open TL (tl tl_append numL)
noncomputable def numsT (w : Str) : List (Option Int) := (Txt.split w colonS).map numN
noncomputable def startD (w : Str) : PyData := .tuple ((numsT w).map dN)
def noneS : Str := ("none" : Str)
open Classical in
noncomputable def planD (t : Str) : PyData := if t = noneS then .tuple [] else .tuple ((wordsT t).map startD)
/-- tuples of the words' numbers -/
inductive Sts (H : Hp) : List V → List Str → Prop
  | nil : Sts H [] []
  | cons {r : Addr} {w : Str} {vs : List V} {ws : List Str} : H r = some (.tup ((numsT w).map vN)) → Sts H vs ws → Sts H (.ref r :: vs) (w :: ws)
theorem Sts.same {H H' : Hp} (e : Same H H') : ∀ {vs ws}, Sts H vs ws → Sts H' vs ws
  | _, _, .nil => .nil
  | _, _, .cons h g => .cons (e _ _ h) (Sts.same e g)
theorem Sts.upd {H : Hp} {D : Addr} {xs : List V} {o : HO} (hD : H D = some (.lst xs)) : ∀ {vs ws}, Sts H vs ws → Sts (L2.upd H D o) vs ws
  | _, _, .nil => .nil
  | _, _, .cons h g => .cons (by rw [upd_ne (ne_of h hD fun z => nomatch z)]; exact h) (Sts.upd hD g)
theorem Sts.snoc {H : Hp} {r : Addr} {w : Str} (h : H r = some (.tup ((numsT w).map vN))) : ∀ {vs ws}, Sts H vs ws → Sts H (vs ++ [.ref r]) (ws ++ [w])
  | _, _, .nil => .cons h .nil
  | _, _, .cons a g => .cons a (Sts.snoc h g)
theorem Sts.dp {K : PySem.W.Frag} {H : Hp} : ∀ {vs ws}, Sts H vs ws → DpAll K H vs (ws.map startD)
  | _, _, .nil => .nil
  | _, _, .cons h g => .cons (.tup (.of h) (dpNs _)) (Sts.dp g)
theorem Sts.len {H : Hp} : ∀ {vs ws}, Sts H vs ws → vs.length = ws.length
  | _, _, .nil => rfl
  | _, _, .cons h g => by rw [List.length_cons, List.length_cons, Sts.len g]
theorem dp_lp {K : PySem.W.Frag} {C : Addr} {H : Hp} {v : V} {d : PyData} (h : Dp K H v d) : Lp K C H v d := by
  have := DpAll.lp (C := C) (DpAll.cons h .nil)
  cases this with
  | cons a _ => exact a
section
variable {P : Program} {w : World} {K : PySem.W.Frag} {mg : Str → Option Value} {base : Heap}
/-! ### _read_start -/
def spReadStart : Sp := fun vs H Q _ => ∃ t : Str, vs = [.str t] ∧ t.length ≤ 640 ∧ ∀ H' r, Same H H' → H r = none → H' r = some (.tup ((numsT t).map vN)) → Q (.ref r) H'
theorem ok_read_start {f f1 : Addr} {fd fd1 : FuncData} {k : Nat} (F : Fun K "_read_start" "_read_start" s_read_start f fd)
    (G1 : FnOk P w K mg base CX0 k f1 fd1 ["text"] spReadNumT) (kp1 : PySem.W.keepIn K (.ref f1) = true) (b1 : Binds K fd1 ["text"] []) (g1 : mg "_read_number" = some (.ref f1)) (m1 : mg "tuple" = none) :
    FnOk P w K mg base CX0 (k + 1) f fd ["text"] spReadStart := by
  refine F.ok sc_read_start (fun vs H Q E h => ?_) (fun cdv A outer s H vs Q E hr h => ?_)
  · obtain ⟨t, rfl, _⟩ := h; rfl
  · obtain ⟨t, rfl, hlen, q⟩ := h
    refine ⟨_, pss_one (ps_ret (pe_callTy call_tuple_of (by rfl) m1 (by decide +kernel) (pa_cons
        (pe_lc (own := [("part", 1)]) (g := gName 1) (tt := tYes) rfl sc_read_start.nd (pi_list (pe_split (pv 0) pe_str)) (blkOk_by (N := ["text", "part"]) (sc := defScope s_read_start) (by decide +kernel))
          (fun _ _ _ _ _ => pg_name (i := 1) sc_read_start.nd rfl (Or.inl rfl)) (fun _ _ _ _ _ => pts_nil)
          (fun _ _ _ _ _ => pe_call G1 hr (by rfl) g1 kp1 b1 .nil pass0 (pa_cons (pv 1) pa_nil))) pa_nil))), ?_⟩
    have big : 1000000 ≤ sizeLine := by rw [sizeLine_eq]; decide
    have hwl := split_len colonM t
    refine ⟨.str t, rfl, ⟨_, rfl⟩, t, colonS, rfl, rfl, colonM.len, Nat.le_trans (by omega) big, fun p np => ?_⟩
    have hp : (upd H p (.lst ((Txt.split t colonS).map V.str))) p = some (.lst ((Txt.split t colonS).map V.str)) := upd_same
    have e0 : Same H (upd H p (.lst ((Txt.split t colonS).map V.str))) := same_new np
    generalize upd H p (.lst ((Txt.split t colonS).map V.str)) = H1 at hp e0 ⊢
    refine ⟨p, rfl, ⟨_, .of hp⟩, fun D hD => ?_⟩
    refine lc_list (xs := (Txt.split t colonS).map V.str) (fun i H' => Same H1 H' ∧ H' D = some (.lst (((numsT t).take i).map vN))) ⟨same_new hD, upd_same⟩ (fun i H' _ h => .of (h.1 _ _ hp)) (fun i x H' hx h => ?_) (fun H' h => ?_)
    · rw [List.getElem?_map] at hx
      obtain ⟨z, hz, rfl⟩ := Option.map_eq_some_iff.mp hx
      have zl := split_word colonM (List.mem_of_getElem? hz)
      have hin := (List.getElem?_eq_some_iff.mp hz).1
      have hzi : (numsT t)[i]? = some (numN z) := by
        unfold numsT
        rw [List.getElem?_map, hz]; rfl
      refine ⟨rfl, .str z, rfl, z, rfl, by omega, fun H'' e => ⟨_, e _ _ h.2, ?_, fun y o e' => ?_, ?_⟩⟩
      · rw [List.length_map, List.length_take]
        exact small1000 (by omega)
      · rw [upd_ne (ne_of_none e' hD)]
        exact e _ _ (h.1 _ _ e')
      · rw [upd_same, List.take_add_one, hzi, List.map_append]
        rfl
    · have lt : (numsT t).take ((Txt.split t colonS).map V.str).length = numsT t := by
        refine List.take_of_length_le ?_
        unfold numsT
        rw [List.length_map, List.length_map]
        exact Nat.le_refl _
      rw [lt] at h
      exact ⟨D, _, rfl, .inl ⟨.of h.2, fun l nl => q _ l (e0.trans (h.1.trans (same_new nl))) (freeS (e0.trans h.1) nl) upd_same⟩⟩
/-! ### read_plan, of anything -/
def spReadPlan (K : PySem.W.Frag) (C Cx : Addr) : Sp := fun vs H Q E => ∃ v d, vs = [v] ∧ Lp K C H v d ∧ ((isB "str" d = false ∧ ∀ H', Same H H' → E (.ref Cx) none H') ∨ ∃ t : Str, d = .str t ∧ t.length ≤ 640 ∧
  (isPlanB 3 (planD t) = true → ∀ H' v', Same H H' → Dp K H' v' (planD t) → Q v' H') ∧ (isPlanB 3 (planD t) = false → ∀ H', Same H H' → E (.ref Cx) none H'))
theorem ok_read_planT {f f1 f2 f3 f4 C Cx Cl : Addr} {fd fd1 fd2 fd3 fd4 : FuncData} {k : Nat} (F : Fun K "read_plan" "read_plan" s_read_plan f fd) (R : Err K mg "NoText" Cx) (hN : ∃ t, mg "NONE" = some (.str ("none" : Str) t))
    (G1 : FnOk P w K mg base (L2.CX P w) k f1 fd1 ["thing"] (spReqTextL K C Cx)) (kp1 : PySem.W.keepIn K (.ref f1) = true) (b1 : Binds K fd1 ["thing"] []) (g1 : mg "_require_text" = some (.ref f1))
    (G2 : FnOk P w K mg base CX0 k f2 fd2 ["text"] spReadStart) (kp2 : PySem.W.keepIn K (.ref f2) = true) (b2 : Binds K fd2 ["text"] []) (g2 : mg "_read_start" = some (.ref f2))
    (G3 : FnOk P w K mg base CX0 k f3 fd3 [] (spGreatest K C)) (kp3 : PySem.W.keepIn K (.ref f3) = true) (b3 : Binds K fd3 [] []) (g3 : mg "_greatest_line" = some (.ref f3))
    (G4 : FnOk P w K mg base (L2.CX P w) k f4 fd4 ["line", "thing"] (spIsPlanL K C Cl)) (kp4 : PySem.W.keepIn K (.ref f4) = true) (b4 : Binds K fd4 ["line", "thing"] []) (g4 : mg "is_plan" = some (.ref f4)) (m1 : mg "tuple" = none) :
    FnOk P w K mg base (L2.CX P w) (k + 1) f fd ["text"] (spReadPlan K C Cx) := by
  obtain ⟨tN, nN⟩ := hN
  refine F.okX sc_read_plan (fun vs H Q E h => ?_) (fun cdv A outer s H vs Q E hr h => ?_)
  · obtain ⟨v, d, rfl, _⟩ := h; rfl
  · obtain ⟨v, d, rfl, hd, h⟩ := h
    refine ⟨_, pss_cons (ps_expr (pe_callS G1 hr (by rfl) g1 kp1 b1 (fun σ => passAt (takes_of rfl rfl rfl rfl) σ) (pa_cons (pv 0) pa_nil)))
      (pss_cons (ps_set (i := 1) sc_read_plan.nd rfl (.inl rfl) (pe_ifExp (pt_cmpR op_eq (pv 0) (pe_glob (v := .str ("none" : Str)) (by rfl) nN ⟨_, rfl⟩) (nomark _)) (pe_tup pa_nil)
          (pe_callTy call_tuple_of (by rfl) m1 (by decide +kernel) (pa_cons
            (pe_lc (own := [("part", 2)]) (g := gName 2) (tt := tYes) rfl sc_read_plan.nd (pi_list (pe_split (pv 0) pe_str)) (blkOk_by (N := ["text", "plan", "part"]) (sc := defScope s_read_plan) (by decide +kernel))
              (fun _ _ _ _ _ => pg_name (i := 2) sc_read_plan.nd rfl (Or.inl rfl)) (fun _ _ _ _ _ => pts_nil)
              (fun _ _ _ _ _ => pe_call G2 hr (by rfl) g2 kp2 b2 .nil pass0 (pa_cons (pv 2) pa_nil))) pa_nil))))
      (pss_cons (ps_if (pt_not (pt_val (pe_callS G4 hr (by rfl) g4 kp4 b4 (fun σ => passAt (takes_of rfl rfl rfl rfl) σ) (pa_cons (pe_call0 G3 hr (by rfl) g3 kp3 b3 .nil pass0) (pa_cons (pv 1) pa_nil)))))
        (pss_one (ps_raise rfl (takes_of rfl rfl rfl rfl) (pmk_own PySem.F.excBase_ValueError R.x R.g R.k (raises_own R.b R.t) rfl))) pss_nil)
      (pss_one (ps_ret (pv 1))))), ?_⟩
    rcases h with ⟨h1, q⟩ | ⟨t, rfl, hlen, q1, q2⟩
    · exact ⟨v, rfl, v, d, rfl, hd, (fun z => by rw [h1] at z; exact nomatch z), fun _ => q _ (same_refl H)⟩
    obtain rfl := hd.str_inv
    refine ⟨.str t, rfl, .str t, .str t, rfl, hd, (fun _ => ?_), fun z => by rw [isB_strT] at z; exact nomatch z⟩
    have big : 1000000 ≤ sizeLine := by rw [sizeLine_eq]; decide
    have rest : ∀ (H1 : Hp) (v' : V), Same H H1 → Dp K H1 v' (planD t) → spGreatest K C [] H1 (fun x H2 => ∃ y, (some (some v')) = some (some y) ∧ spIsPlanL K C Cl [x, y] H2 (fun b H3 => ∃ c, b = .bl c ∧ (if (!c) = true then E (.ref Cx) none H3 else ∃ z, (some (some v')) = some (some z) ∧ Q z H3)) E) E0 := fun H1 v' e1 hv => ⟨rfl, fun H2 a e2 hL => ⟨v', rfl, .ref a, v', rfl, .inr ⟨a, zeroW, planD t, rfl, hL, dp_lp (Dp.same e2 hv), isPlanB 3 (planD t), rfl, by
      cases hb : isPlanB 3 (planD t) with
      | true => exact iteF ⟨v', rfl, q1 hb H2 v' (e1.trans e2) (Dp.same e2 hv)⟩
      | false => exact iteT (q2 hb _ (e1.trans e2))⟩⟩⟩
    refine ⟨.str t, rfl, rfl, _, rfl, ite2 (fun z => ?_) (fun z => ?_)⟩
    · have ht : t = noneS := V.str.inj (of_decide_eq_true z)
      have hp : planD t = .tuple [] := by unfold planD; rw [if_pos ht]
      refine ⟨Nat.zero_le _, fun l nl => ?_⟩
      exact rest _ (.ref l) (same_new nl) (by rw [hp]; exact .tup (.of upd_same) .nil)
    · have ht : t ≠ noneS := fun y => z (decide_eq_true (by rw [y]; rfl))
      have hpl : planD t = .tuple ((wordsT t).map startD) := by unfold planD; rw [if_neg ht]
      have hwl := words_len t
      refine ⟨.str t, rfl, ⟨_, rfl⟩, t, gapS, rfl, rfl, gapM.len, Nat.le_trans (by omega) big, fun p np => ?_⟩
      rw [show Txt.split t gapS = wordsT t from rfl]
      have hp : (upd H p (.lst ((wordsT t).map V.str))) p = some (.lst ((wordsT t).map V.str)) := upd_same
      have e0 : Same H (upd H p (.lst ((wordsT t).map V.str))) := same_new np
      generalize upd H p (.lst ((wordsT t).map V.str)) = H1 at hp e0 ⊢
      refine ⟨p, rfl, ⟨_, .of hp⟩, fun D hD => ?_⟩
      refine lc_list (xs := (wordsT t).map V.str) (fun i H' => Same H1 H' ∧ ∃ acc, H' D = some (.lst acc) ∧ Sts H' acc ((wordsT t).take i)) ⟨same_new hD, [], upd_same, .nil⟩ (fun i H' _ h => .of (h.1 _ _ hp)) (fun i x H' hx h => ?_) (fun H' h => ?_)
      · obtain ⟨sm, acc, hac, hst⟩ := h
        rw [List.getElem?_map] at hx
        obtain ⟨y, hy, rfl⟩ := Option.map_eq_some_iff.mp hx
        have zl := word_len (List.mem_of_getElem? hy)
        have hin := (List.getElem?_eq_some_iff.mp hy).1
        have hal := hst.len
        rw [List.length_take] at hal
        refine ⟨rfl, .str y, rfl, y, rfl, by omega, fun H'' r e nr hr => ⟨acc, e _ _ hac, small1000 (by omega), ⟨fun b o e' => ?_, _, upd_same, ?_⟩⟩⟩
        · rw [upd_ne (ne_of_none e' hD)]
          exact e _ _ (sm _ _ e')
        · rw [List.take_add_one, hy]
          exact ((hst.same e).snoc hr).upd (e _ _ hac)
      · obtain ⟨sm, acc, hac, hst⟩ := h
        rw [List.length_map, List.take_length] at hst
        refine ⟨D, acc, rfl, .inl ⟨.of hac, fun l nl => ?_⟩⟩
        refine rest _ (.ref l) (e0.trans (sm.trans (same_new nl))) ?_
        rw [hpl]
        exact .tup (.of upd_same) ((hst.same (same_new nl)).dp)
end
end Sg
set_option Elab.async false
set_option linter.all false
set_option maxRecDepth 100000
set_option maxHeartbeats 4000000
namespace Sg
open PySem PySem.Spec PyProof.Rows L2 StX
open TL (tl tl_append numL)
/-- the rows of a text, and whether they are a line's -/
def rowsT (t : Str) : List Str := Txt.split t lineS
def LineOk (t : Str) : Prop := 2 ≤ (rowsT t).length ∧ (rowsT t).length ≤ 4 ∧ (rowsT t).getLast? = some ("" : Str) ∧ ∀ r ∈ (rowsT t).dropLast, WorkD (itemsD r)
def LineD (t : Str) (ws : List (List Int)) : Prop := ((rowsT t).dropLast).map itemsD = tDs ws
theorem cut_last (l : List V) : cutV l none (some (-1)) = l.take (l.length - 1) := by
  unfold cutV
  rw [HT.sIx_none, List.drop_zero]
  have e : HT.sIx l.length l.length (some (-1)) = l.length - 1 := by
    show (if (-1 : Int) < 0 then ((-1 : Int) + (l.length : Nat)).toNat else min (-1 : Int).toNat l.length) = _
    rw [if_pos (by decide)]
    omega
  rw [e, Nat.sub_zero]
theorem atI_end {l : List V} {x : V} (h : l.getLast? = some x) : atI l (-1) = some x := by
  have hp : 0 < l.length := by
    cases l with
    | nil => cases h
    | cons a r => exact Nat.succ_pos _
  unfold atI
  rw [ixN_end hp]
  show l[l.length - 1]? = _
  rw [← h, List.getLast?_eq_getElem?]
theorem getLast_some {α : Type} : ∀ {l : List α}, l ≠ [] → ∃ x, l.getLast? = some x
  | [], h => absurd rfl h
  | a :: r, _ => ⟨(a :: r).getLast (by simp), List.getLast?_eq_some_getLast (by simp)⟩
theorem TpAll.snoc {K : PySem.W.Frag} {H : Hp} {v : V} {d : PyData} (g : Tp K H v d) : ∀ {vs : List V} {ds : List PyData}, TpAll K H vs ds → TpAll K H (vs ++ [v]) (ds ++ [d])
  | _, _, .no => .on g .no
  | _, _, .on h r => .on h (TpAll.snoc g r)
theorem itemsV_of {t : Str} {ns : List Int} (h : itemsD t = tD ns) : (itemsT t).map vN = ns.map V.int := by
  have e : (itemsT t).map dN = ns.map PyData.int := PyData.tuple.inj h
  have : ∀ (os : List (Option Int)) (ns : List Int), os.map dN = ns.map PyData.int → os.map vN = ns.map V.int := by
    intro os
    induction os with
    | nil => intro ns h; cases ns with
      | nil => rfl
      | cons a r => cases h
    | cons o os ih => intro ns h; cases ns with
      | nil => cases h
      | cons a r =>
        rw [List.map_cons, List.map_cons] at h
        obtain ⟨h1, h2⟩ := List.cons.inj h
        rw [List.map_cons, List.map_cons, ih r h2]
        cases o with
        | none => cases h1
        | some i => cases h1; rfl
  exact this _ _ e
section
variable {P : Program} {w : World} {K : PySem.W.Frag} {mg : Str → Option Value} {base : Heap}
def spReadLine (K : PySem.W.Frag) (C Cx : Addr) : Sp := fun vs H Q E => ∃ v d, vs = [v] ∧ Lp K C H v d ∧ ((isB "str" d = false ∧ ∀ H', Same H H' → E (.ref Cx) none H') ∨ ∃ t : Str, d = .str t ∧ t.length ≤ 640 ∧
  (LineOk t → ∀ H' x ws, Same H H' → LineAt K C H' x ws → LineD t ws → Q (.ref x) H') ∧ (¬ LineOk t → ∀ H', Same H H' → E (.ref Cx) none H'))
theorem ok_read_lineT {f f1 f2 fi C Cx : Addr} {fd fd1 fd2 : FuncData} {k : Nat} (F : Fun K "read_line" "read_line" s_read_line f fd) (R : Err K mg "NoText" Cx) (hM : ∃ t, mg "MOST_WORKS" = some (.int 3 t))
    (T : LC K mg C) (M : Mk K C fi) (G : FnR P w K mg base CX0 k fi (spInit K C))
    (G1 : FnOk P w K mg base (L2.CX P w) k f1 fd1 ["thing"] (spReqTextL K C Cx)) (kp1 : PySem.W.keepIn K (.ref f1) = true) (b1 : Binds K fd1 ["thing"] []) (g1 : mg "_require_text" = some (.ref f1))
    (G2 : FnOk P w K mg base (L2.CX P w) k f2 fd2 ["text"] (spReadIn K Cx WorkD)) (kp2 : PySem.W.keepIn K (.ref f2) = true) (b2 : Binds K fd2 ["text"] []) (g2 : mg "_read_work" = some (.ref f2)) (m1 : mg "len" = none) :
    FnOk P w K mg base (L2.CX P w) (k + 2) f fd ["text"] (spReadLine K C Cx) := by
  obtain ⟨tM, nM⟩ := hM
  refine F.okX sc_read_line (fun vs H Q E h => ?_) (fun cdv A outer s H vs Q E hr h => ?_)
  · obtain ⟨v, d, rfl, _⟩ := h; rfl
  · obtain ⟨v, d, rfl, hd, h⟩ := h
    refine ⟨_, pss_cons (ps_expr (pe_callS G1 (hr.mono (by omega)) (by rfl) g1 kp1 b1 (fun σ => passAt (takes_of rfl rfl rfl rfl) σ) (pa_cons (pv 0) pa_nil)))
      (pss_cons (ps_set (i := 1) sc_read_line.nd rfl (.inl rfl) (pe_split (pv 0) pe_str))
      (pss_cons (ps_if (PW.pt (pw_or (pt_not (pt_chain op_lt op_le pe_int (pe_callB call_len_seq (by rfl) m1 PySem.boot_len (pa_cons (pv 1) pa_nil)) (pe_op op_add (pe_glob (v := .int 3) (by rfl) nM ⟨_, rfl⟩) pe_int)))
          (pw_or1 (pt_cmpR op_ne (pe_ix ix_list (pv 1) (pe_un un_neg pe_int) (fun _ _ => rfl)) pe_str (nomark _)))))
        (pss_one (ps_raise rfl (takes_of rfl rfl rfl rfl) (pmk_own PySem.F.excBase_ValueError R.x R.g R.k (raises_own R.b R.t) rfl))) pss_nil)
      (pss_cons (ps_setLcX (W := fun cls d _ H => E cls d H) (E := E) (i := 2) (own := [("row", 3)]) (g := gName 3) (tt := tYes) rfl sc_read_line.nd rfl rfl (takes_of rfl rfl rfl rfl) (fun _ _ _ _ h => h) rfl rfl (sw_true rfl rfl rfl (by decide +kernel))
          (pi_list (pe_slice sl_list (pv 1) po_none (po_some (pe_un un_neg pe_int)))) (blkOk_by (N := ["text", "rows", "works", "row"]) (sc := defScope s_read_line) (by decide +kernel))
          (fun _ _ _ _ _ _ => pg_name (i := 3) sc_read_line.nd rfl (Or.inl rfl)) (fun _ _ _ _ _ _ => pts_nil)
          (fun _ _ _ _ _ _ pass => pe_callS (E := fun _ => E) G2 (hr.mono (by omega)) (by rfl) g2 kp2 b2 pass (pa_cons (pv 3) pa_nil)))
      (pss_one (ps_ret (pe_makeS M G (hr.mono (by omega)) (by rfl) T.mgC pass0 (pv 2))))))), ?_⟩
    rcases h with ⟨h1, q⟩ | ⟨t, rfl, hlen, q1, q2⟩
    · exact ⟨v, rfl, v, d, rfl, hd, (fun z => by rw [h1] at z; exact nomatch z), fun _ => q _ (same_refl H)⟩
    obtain rfl := hd.str_inv
    refine ⟨.str t, rfl, .str t, .str t, rfl, hd, (fun _ => ?_), fun z => by rw [isB_strT] at z; exact nomatch z⟩
    have big : 1000000 ≤ sizeLine := by rw [sizeLine_eq]; decide
    have hrl : (rowsT t).length ≤ t.length + 1 := split_len lineM t
    have hne : rowsT t ≠ [] := split_ne lineM t
    refine ⟨.str t, rfl, ⟨_, rfl⟩, t, lineS, rfl, rfl, lineM.len, Nat.le_trans (by omega) big, fun p np => ?_⟩
    rw [show Txt.split t lineS = rowsT t from rfl]
    have hp : (upd H p (.lst ((rowsT t).map V.str))) p = some (.lst ((rowsT t).map V.str)) := upd_same
    have e0 : Same H (upd H p (.lst ((rowsT t).map V.str))) := same_new np
    generalize upd H p (.lst ((rowsT t).map V.str)) = H1 at hp e0 ⊢
    have few : (rowsT t).length < sizeLine := Nat.lt_of_le_of_lt hrl (Nat.lt_of_lt_of_le (by omega) big)
    have lr : ((rowsT t).map V.str).length = (rowsT t).length := List.length_map _
    obtain ⟨lastR, hlast⟩ := getLast_some hne
    have hat : atI ((rowsT t).map V.str) (-1) = some (.str lastR) := atI_end (by rw [List.getLast?_map, hlast]; rfl)
    refine ⟨.ref p, rfl, p, _, rfl, .inl (.of hp), 1, _, rfl, rfl, _, rfl, ite2 (fun z => ?_) (fun z => ?_)⟩
    · have z := of_decide_eq_true z
      rw [lr] at z
      refine ⟨3, 1, rfl, rfl, _, _, rfl, rfl, _, rfl, ite2 (fun z2 => ?_) (fun z2 => ?_)⟩
      · refine iteT (q2 (fun L => ?_) H1 e0)
        have z3 := L.2.1
        rw [lr] at z2
        simp only [Bool.not_eq_true', decide_eq_false_iff_not] at z2
        omega
      · rw [lr] at z2
        simp only [Bool.not_eq_true', decide_eq_false_iff_not, Classical.not_not] at z2
        refine ⟨.ref p, rfl, 1, rfl, p, _, -1, _, rfl, rfl, .of hp, hat, rfl, _, rfl, ite2 (fun z3 => ?_) (fun z3 => ?_)⟩
        · refine q2 (fun L => ?_) H1 e0
          have z4 := L.2.2.1
          rw [hlast] at z4
          rw [Option.some.inj z4] at z3
          exact absurd z3 (by decide)
        · have hl0 : lastR = ("" : Str) := by
            by_cases hh : (V.str lastR) = V.str ("" : Str)
            · exact V.str.inj hh
            · rw [decide_eq_false hh] at z3; exact absurd rfl z3
          refine ⟨.ref p, rfl, 1, rfl, -1, rfl, p, _, rfl, .of hp, fun p2 np2 => ?_⟩
          have ce : cutV ((rowsT t).map V.str) none (some (-1)) = ((rowsT t).dropLast).map V.str := by rw [cut_last, lr, List.dropLast_eq_take, List.map_take]
          rw [ce]
          have hp2 : (upd H1 p2 (.lst (((rowsT t).dropLast).map V.str))) p2 = some (.lst (((rowsT t).dropLast).map V.str)) := upd_same
          have e2 := e0.trans (same_new (o := .lst (((rowsT t).dropLast).map V.str)) np2)
          generalize upd H1 p2 (.lst (((rowsT t).dropLast).map V.str)) = H2 at hp2 e2 ⊢
          have ld : (rowsT t).dropLast.length = (rowsT t).length - 1 := List.length_dropLast
          refine ⟨p2, rfl, ⟨_, .of hp2⟩, fun D hD => ?_⟩
          refine lc_list (xs := ((rowsT t).dropLast).map V.str) (fun i H' => Same H2 H' ∧ ∃ (acc : List V) (ws : List (List Int)), H' D = some (.lst acc) ∧ TpAll K H' acc (tDs ws) ∧ (((rowsT t).dropLast).take i).map itemsD = tDs ws ∧ ∀ w ∈ ws, IsWork w)
            ⟨same_new hD, [], [], upd_same, .no, rfl, fun w hw => nomatch hw⟩ (fun i H' _ h => .of (h.1 _ _ hp2)) (fun i x H' hx h => ?_) (fun H' h => ?_)
          · obtain ⟨sm, acc, ws, hac, hT, hws, hwk⟩ := h
            rw [List.getElem?_map] at hx
            obtain ⟨y, hy, rfl⟩ := Option.map_eq_some_iff.mp hx
            have hyr : y ∈ rowsT t := (List.dropLast_sublist (rowsT t)).subset (List.mem_of_getElem? hy)
            have zl := split_word lineM hyr
            have hal : acc.length ≤ (rowsT t).dropLast.length := by
              have := congrArg List.length hws
              rw [List.length_map, List.length_map, List.length_take] at this
              rw [hT.len, List.length_map]
              omega
            refine ⟨rfl, .str y, rfl, y, rfl, by omega, fun hw H'' r e hr => ?_, fun hw H'' e => q2 (fun L => hw (L.2.2.2 y (List.mem_of_getElem? hy))) H'' (e2.trans (sm.trans e))⟩
            obtain ⟨ns, hns, hIs⟩ := hw
            refine ⟨acc, e _ _ hac, by omega, fun b o e' => ?_, acc ++ [.ref r], ws ++ [ns], upd_same, ?_, ?_, fun w hw => ?_⟩
            · rw [upd_ne (ne_of_none e' hD)]
              exact e _ _ (sm _ _ e')
            · have hr' : Tp K H'' (.ref r) (tD ns) := Tp.ofInts (.of (by rw [hr, itemsV_of hns]))
              have := TpAll.snoc hr' (hT.stay (.of e))
              have t2 := this.stay (.but (p := D) (H' := upd H'' D (.lst (acc ++ [.ref r]))) (fun b o nb h => by rw [upd_ne nb]; exact h) (e _ _ hac))
              rw [show tDs (ws ++ [ns]) = tDs ws ++ [tD ns] from List.map_append]
              exact t2
            · rw [List.take_add_one, hy, List.map_append, hws]
              show _ ++ [itemsD y] = _
              rw [hns]
              exact (List.map_append (f := tD) (l₁ := ws) (l₂ := [ns])).symm
            · rcases List.mem_append.mp hw with h | h
              · exact hwk w h
              · rw [List.mem_singleton.mp h]; exact hIs
          · obtain ⟨sm, acc, ws, hac, hT, hws, hwk⟩ := h
            rw [List.length_map, List.take_length] at hws
            have lw : ws.length = (rowsT t).length - 1 := by
              have := congrArg List.length hws
              rw [List.length_map, List.length_map] at this
              omega
            have ok : LineOk t := ⟨by omega, by omega, by rw [hlast, hl0], fun r hr => by
              have hm : itemsD r ∈ tDs ws := by rw [← hws]; exact List.mem_map_of_mem hr
              obtain ⟨ns, hn, e⟩ := List.mem_map.mp hm
              exact ⟨ns, e.symm, hwk ns hn⟩⟩
            exact ⟨.ref D, rfl, D, acc, rfl, .inr (.of hac), make_line hT ⟨by omega, by omega, hwk⟩ fun H3 a e3 _ hL => q1 ok H3 a ws (e2.trans (sm.trans e3)) hL hws⟩
    · refine ⟨false, rfl, iteT (iteT (q2 (fun L => ?_) H1 e0))⟩
      have z : ¬ (1 : Int) < ((((rowsT t).map V.str).length : Nat) : Int) := fun y => z (decide_eq_true y)
      rw [lr] at z
      have := L.1
      omega
end
end Sg
set_option Elab.async false
set_option linter.all false
set_option maxRecDepth 100000
set_option maxHeartbeats 4000000
namespace Sg
open PySem PySem.Spec PyProof.Rows L2 StX
open TL (tl tl_append numL)
/-- a word of the law's rows: - or one digit -/
def digW (w : Str) : Prop := w = dashS ∨ ∃ c, tl w = [c] ∧ 48 ≤ c ∧ c ≤ 57
theorem digW_num {w : Str} {c : Nat} (h : tl w = [c]) (h1 : 48 ≤ c) (h2 : c ≤ 57) : w = num ((c - 48 : Nat) : Int) := TL.ext_tl (by
  rw [h, num_tl, TL.numL_lt (by omega)]
  congr 1
  omega)
theorem digW_ok {w : Str} : digW w ↔ okW 9 w := by
  refine ⟨fun h => ?_, fun ⟨x, hx, x1, x2⟩ => ?_⟩
  · rcases h with rfl | ⟨c, h, h1, h2⟩
    · exact ⟨-1, partN_dash, by decide, by decide⟩
    · refine ⟨((c - 48 : Nat) : Int), ?_, by omega, by omega⟩
      have := digW_num h h1 h2
      rw [this]
      exact partN_num _
  · rcases partN_cases w with ⟨h, _⟩ | ⟨n, h, e⟩ | ⟨_, _, e⟩
    · exact .inl h
    · rw [hx] at e
      have := Option.some.inj e
      refine .inr ⟨48 + n, ?_, by omega, by omega⟩
      rw [h, num_tl, TL.numL_lt (by omega)]
    · rw [hx] at e; exact nomatch e
/-- the items of a row are a work, by its words -/
def rowOk (t : Str) : Prop := (wordsT t).length ≤ 60 ∧ (∀ w ∈ wordsT t, digW w) ∧ (wordsT t)[0]? ≠ some dashS ∧ (wordsT t).getLast? ≠ some dashS
theorem part_dash {w : Str} (h : partN w = some (-1)) : w = dashS := by
  rcases partN_cases w with ⟨h, _⟩ | ⟨n, _, e⟩ | ⟨_, _, e⟩
  · exact h
  · rw [h] at e
    have := Option.some.inj e
    omega
  · rw [h] at e; exact nomatch e
theorem rowOk_iff {t : Str} : WorkD (itemsD t) ↔ rowOk t := by
  have lI : (itemsT t).length = (wordsT t).length := List.length_map _
  have ix : ∀ i, (itemsT t)[i]? = ((wordsT t)[i]?).map partN := fun i => List.getElem?_map
  have pos : 1 ≤ (wordsT t).length := by
    have := words_ne t
    cases e : wordsT t with
    | nil => exact absurd e this
    | cons a r => rw [List.length_cons]; omega
  refine ⟨fun ⟨ns, e, g⟩ => ?_, fun ⟨h1, h2, h3, h4⟩ => ?_⟩
  · have hi := items_iff.mp e
    have ln : ns.length = (wordsT t).length := by rw [← lI, hi, List.length_map]
    have nx : ∀ i, ((wordsT t)[i]?).map partN = (ns[i]?).map some := fun i => by rw [← ix, hi, List.getElem?_map]
    refine ⟨by rw [← ln]; exact g.most, fun w hw => digW_ok.mpr (items_words hi g.items w hw), fun z => ?_, fun z => ?_⟩
    · have := nx 0
      rw [z] at this
      cases q : ns[0]? with
      | none => rw [q] at this; exact nomatch this
      | some x =>
        rw [q] at this
        have := Option.some.inj (Option.some.inj (this.symm.trans (congrArg some partN_dash)))
        exact g.head x q this
    · rw [List.getLast?_eq_getElem?] at z
      have := nx ((wordsT t).length - 1)
      rw [z] at this
      cases q : ns[(wordsT t).length - 1]? with
      | none => rw [q] at this; exact nomatch this
      | some x =>
        rw [q] at this
        have := Option.some.inj (Option.some.inj (this.symm.trans (congrArg some partN_dash)))
        exact g.last x (by rw [ln]; exact q) this
  · obtain ⟨ns, hi⟩ := all_some (os := itemsT t) fun o ho => by
      obtain ⟨w, hw, rfl⟩ := List.mem_map.mp ho
      obtain ⟨x, hx, _⟩ := digW_ok.mp (h2 w hw)
      exact ⟨x, hx⟩
    have ln : ns.length = (wordsT t).length := by rw [← lI, hi, List.length_map]
    have nx : ∀ i, ((wordsT t)[i]?).map partN = (ns[i]?).map some := fun i => by rw [← ix, hi, List.getElem?_map]
    have at_ : ∀ i x, ns[i]? = some x → ∃ w, (wordsT t)[i]? = some w ∧ partN w = some x := fun i x h => by
      have := nx i
      rw [h] at this
      obtain ⟨w, hw, e⟩ := Option.map_eq_some_iff.mp this
      exact ⟨w, hw, e⟩
    refine ⟨ns, items_iff.mpr hi, ⟨by omega, by omega, fun x hx => ?_, fun x hx c => ?_, fun x hx c => ?_⟩⟩
    · obtain ⟨i, hix⟩ := List.getElem?_of_mem hx
      obtain ⟨w, hw, e⟩ := at_ i x hix
      obtain ⟨y, hy, y1, y2⟩ := digW_ok.mp (h2 w (List.mem_of_getElem? hw))
      rw [e] at hy
      rw [Option.some.inj hy]
      exact ⟨y1, y2⟩
    · obtain ⟨w, hw, e⟩ := at_ 0 x hx
      rw [c] at e
      rw [part_dash e] at hw
      exact h3 hw
    · obtain ⟨w, hw, e⟩ := at_ _ x hx
      rw [c] at e
      rw [part_dash e, ln] at hw
      rw [List.getLast?_eq_getElem?] at h4
      exact h4 hw
/-! ### checks that the kernel does -/
def digB (w : Str) : Bool := decide (w = dashS) || (match tl w with
  | [c] => decide (48 ≤ c) && decide (c ≤ 57)
  | _ => false)
theorem digB_iff {w : Str} : digB w = true ↔ digW w := by
  unfold digB digW
  rw [Bool.or_eq_true, decide_eq_true_eq]
  refine or_congr Iff.rfl ?_
  constructor
  · intro h
    split at h
    · rename_i c hc
      rw [Bool.and_eq_true, decide_eq_true_eq, decide_eq_true_eq] at h
      exact ⟨c, hc, h.1, h.2⟩
    · exact nomatch h
  · rintro ⟨c, hc, h1, h2⟩
    rw [hc]
    exact Bool.and_eq_true_iff.mpr ⟨decide_eq_true h1, decide_eq_true h2⟩
def rowCk (t : Str) : Bool := decide ((wordsT t).length ≤ 60) && ((wordsT t).all digB && (decide ((wordsT t)[0]? ≠ some dashS) && decide ((wordsT t).getLast? ≠ some dashS)))
theorem rowCk_iff {t : Str} : rowCk t = true ↔ rowOk t := by
  unfold rowCk rowOk
  rw [Bool.and_eq_true, Bool.and_eq_true, Bool.and_eq_true, decide_eq_true_eq, decide_eq_true_eq, decide_eq_true_eq, List.all_eq_true]
  exact and_congr Iff.rfl (and_congr (forall_congr' fun w => imp_congr Iff.rfl digB_iff) Iff.rfl)
theorem row_yes {t : Str} (h : rowCk t = true) : WorkD (itemsD t) := rowOk_iff.mpr (rowCk_iff.mp h)
theorem row_no {t : Str} (h : rowCk t = false) : ¬ WorkD (itemsD t) := fun g => by
  rw [rowCk_iff.mpr (rowOk_iff.mp g)] at h
  exact nomatch h
def lineCk (t : Str) : Bool := decide (2 ≤ (rowsT t).length) && (decide ((rowsT t).length ≤ 4) && (decide ((rowsT t).getLast? = some ("" : Str)) && (rowsT t).dropLast.all rowCk))
theorem lineCk_iff {t : Str} : lineCk t = true ↔ LineOk t := by
  unfold lineCk LineOk
  rw [Bool.and_eq_true, Bool.and_eq_true, Bool.and_eq_true, decide_eq_true_eq, decide_eq_true_eq, decide_eq_true_eq, List.all_eq_true]
  exact and_congr Iff.rfl (and_congr Iff.rfl (and_congr Iff.rfl (forall_congr' fun w => imp_congr Iff.rfl (rowCk_iff.trans rowOk_iff.symm))))
theorem line_no {t : Str} (h : lineCk t = false) : ¬ LineOk t := fun g => by
  rw [lineCk_iff.mpr g] at h
  exact nomatch h
theorem partN_partS {x : Int} (h : -1 ≤ x) : partN (Wr.partS x) = some x := by
  rcases (show x = -1 ∨ 0 ≤ x by omega) with rfl | h
  · rw [Wr.part_dash]; exact partN_dash
  · obtain ⟨n, rfl⟩ : ∃ n : Nat, x = n := ⟨x.toNat, by omega⟩
    rw [Wr.part_num h]
    exact partN_num n
/-- the items of a text, told by its words -/
theorem items_by {t : Str} {ns : List Int} (h : wordsT t = ns.map Wr.partS) (g : ∀ x ∈ ns, -1 ≤ x) : itemsT t = ns.map some := by
  unfold itemsT
  rw [h, List.map_map]
  exact List.map_congr_left fun x hx => partN_partS (g x hx)
theorem itemsD_by {t : Str} {ns : List Int} (h : wordsT t = ns.map Wr.partS) (g : ∀ x ∈ ns, -1 ≤ x) : itemsD t = tD ns := items_iff.mpr (items_by h g)
/-! ### laps -/
def lapW : List Str := ["-", "0", "1", "2"]
theorem lap_no {t : Str} (h : (wordsT t).all (fun w => decide (w ∈ lapW)) = false) : ¬ LapD 3 (itemsD t) := fun ⟨ns, e, g⟩ => by
  have hi := items_iff.mp e
  have : (wordsT t).all (fun w => decide (w ∈ lapW)) = true := List.all_eq_true.mpr fun w hw => decide_eq_true (by
    obtain ⟨x, hx, x1, x2⟩ := items_words (m := 2) hi (fun x hx => by have := g.items x hx; omega) w hw
    rcases partN_cases w with ⟨h, _⟩ | ⟨n, h, e⟩ | ⟨_, _, e⟩
    · rw [h]; exact List.mem_cons_self
    · rw [hx] at e
      have := Option.some.inj e
      have hn : n = 0 ∨ n = 1 ∨ n = 2 := by omega
      rw [h]
      rcases hn with rfl | rfl | rfl <;> decide +kernel
    · rw [hx] at e; exact nomatch e)
  rw [this] at h
  exact nomatch h
/-! ### plans -/
def noZB (l : List Nat) : Bool := decide (l ≠ []) && (l.all (fun c => decide (48 ≤ c) && decide (c ≤ 57)) && (!decide (l.head? = some 48) || decide (l = [48])))
theorem noZB_of {l : List Nat} (h : NoZ l) : noZB l = true := by
  obtain ⟨h1, h2, h3⟩ := h
  unfold noZB
  refine Bool.and_eq_true_iff.mpr ⟨decide_eq_true h1, Bool.and_eq_true_iff.mpr ⟨List.all_eq_true.mpr fun c hc => Bool.and_eq_true_iff.mpr ⟨decide_eq_true (h2 c hc).1, decide_eq_true (h2 c hc).2⟩, ?_⟩⟩
  by_cases h : l.head? = some 48
  · rw [decide_eq_true (h3 h)]; simp
  · rw [decide_eq_false h]; rfl
def numC (t : Str) : Option Int := if noZB (tl t) = true then ((List.range 20).find? fun n => decide (num ((n : Nat) : Int) = t)).map fun n => ((n : Nat) : Int) else none
def okNm (t : Str) : Bool := !noZB (tl t) || (List.range 20).any fun n => decide (num ((n : Nat) : Int) = t)
theorem numN_C {t : Str} (h : okNm t = true) : numN t = numC t := by
  unfold numC
  by_cases hz : noZB (tl t) = true
  · rw [if_pos hz]
    unfold okNm at h
    rw [hz] at h
    have h : ((List.range 20).any fun n => decide (num ((n : Nat) : Int) = t)) = true := h
    cases hf : (List.range 20).find? fun n => decide (num ((n : Nat) : Int) = t) with
    | none =>
      obtain ⟨n, hn, e⟩ := List.any_eq_true.mp h
      exact absurd e (List.find?_eq_none.mp hf n hn)
    | some n =>
      have e : num ((n : Nat) : Int) = t := of_decide_eq_true (List.find?_some (p := fun n : Nat => decide (num ((n : Nat) : Int) = t)) hf)
      rw [← e]
      exact numN_num n
  · rw [if_neg hz]
    refine numN_no fun n e => hz ?_
    rw [e]
    exact noZB_of (numL_noZ n)
def startC (w : Str) : PyData := .tuple ((Txt.split w colonS).map fun p => dN (numC p))
def planC (t : Str) : PyData := if t = noneS then .tuple [] else .tuple ((wordsT t).map startC)
def planOkC (t : Str) : Bool := (wordsT t).all fun w => (Txt.split w colonS).all okNm
theorem planD_C {t : Str} (h : planOkC t = true) : planD t = planC t := by
  unfold planD planC
  by_cases e : t = noneS
  · rw [if_pos e, if_pos e]
  · rw [if_neg e, if_neg e]
    congr 1
    refine List.map_congr_left fun w hw => ?_
    unfold startD startC numsT
    rw [List.map_map]
    congr 1
    refine List.map_congr_left fun p hp => ?_
    show dN (numN p) = dN (numC p)
    rw [numN_C (List.all_eq_true.mp (List.all_eq_true.mp h w hw) p hp)]
/-- a text of no plan -/
def noPlanB (t : Str) : Bool := planOkC t && !isPlanB 3 (planC t)
theorem plan_no {t : Str} (h : noPlanB t = true) : isPlanB 3 (planD t) = false := by
  obtain ⟨h1, h2⟩ := Bool.and_eq_true_iff.mp h
  rw [planD_C h1]
  simpa using h2
/-! ### the texts of the law -/
def cat (l : List Str) : Str := l.foldl (· ++ ·) ("" : Str)
def worksL (a b : Str) : List Str := ["", " ", (a ++ ("  " : Str)) ++ b, (" " : Str) ++ a, a ++ (" " : Str), a ++ ("\n" : Str), ("- " : Str) ++ a, a ++ (" -" : Str), "-", ("0" : Str) ++ a, "10", "+1", (a ++ ("," : Str)) ++ b, "x", "--"]
def lapsL : List Str := ["", "- ", " -", "-  -", "3", "00", "0 1 2 3", "-1", "0\n", "none"]
def linesL (a b : Str) : List Str := ["", a, a ++ ("\n\n" : Str), "\n", (("\n" : Str) ++ a) ++ ("\n" : Str), a ++ (" \n" : Str), repS (a ++ ("\n" : Str)) 4, (a ++ ("\n" : Str)) ++ b, a ++ (" -\n" : Str)]
def plansL : List Str := ["", "None", "none none", "0", "0:", ":0", "0:0  1:0", " 0:0", "0:0 ", "1:0 1:1", "2:0 1:0", "0:3", "00:0", "0:00", "0:0:0", "-1:0", "0:0\n"]
abbrev all2 (f : Str → Str → Bool) : Bool := (List.range 10).all fun a => (List.range 10).all fun b => f (num ((a : Nat) : Int)) (num ((b : Nat) : Int))
theorem all2_at {f : Str → Str → Bool} (h : all2 f = true) {a b : Int} (ha : 0 ≤ a ∧ a ≤ 9) (hb : 0 ≤ b ∧ b ≤ 9) : f (num a) (num b) = true := by
  obtain ⟨n, rfl⟩ : ∃ n : Nat, a = n := ⟨a.toNat, by omega⟩
  obtain ⟨m, rfl⟩ : ∃ m : Nat, b = m := ⟨b.toNat, by omega⟩
  exact List.all_eq_true.mp (List.all_eq_true.mp h n (List.mem_range.mpr (by omega))) m (List.mem_range.mpr (by omega))
theorem works_no : all2 (fun a b => (worksL a b).all fun t => !rowCk t && okTB 20 t) = true := by decide +kernel
theorem lines_no : all2 (fun a b => (linesL a b).all fun t => !lineCk t && okTB 20 t) = true := by decide +kernel
theorem laps_no : (lapsL.all fun t => !((wordsT t).all fun w => decide (w ∈ lapW)) && okTB 20 t) = true := by decide +kernel
theorem plans_no : (plansL.all fun t => noPlanB t && okTB 20 t) = true := by decide +kernel
end Sg
set_option Elab.async false
set_option linter.all false
set_option maxRecDepth 100000
set_option maxHeartbeats 4000000
namespace Sg
open PySem PySem.Spec PyProof.Rows L2 StX
open TL (tl tl_append numL)
/-- a def that may raise, called where it does not -/
theorem FnOk.to0 {P : Program} {w : World} {K : PySem.W.Frag} {mg : Str → Option Value} {base : Heap} {k : Nat} {f : Addr} {fd : FuncData} {ps : List Str} {sp : Sp} (F : FnOk P w K mg base (L2.CX P w) k f fd ps sp) :
    FnOk P w K mg base CX0 k f fd ps (fun vs H Q _ => sp vs H Q E0) :=
  ⟨fun vs H Q E h => F.len vs H Q E0 h, fun A outer s H args us vs Q E hr he hb hv hs => codeAny_mono (F.run A outer s H args us vs Q E0 hr he hb hv hs) fun r s' h => by
    cases r with
    | ok x =>
      cases x with
      | ret u => exact h
      | _ => exact h
    | error e =>
      obtain ⟨_, _, _, _, _, _, _, _, _, _, _, _, z⟩ := (show L2.CX P w outer H s E0 e s' from h)
      exact z.elim⟩
/-! ### texts made of two signs -/
/-- the text g of the texts at 2 and 3 -/
def tT (g : Str → Str → Str) : TE := fun σ H Q => ∃ a b : Str, σ[2]? = some (some (.str a)) ∧ σ[3]? = some (some (.str b)) ∧ a.length = 1 ∧ b.length = 1 ∧ Q (.str (g a b)) H
structure PT (X : Cx) (e : Expr) (n : Nat) (g : Str → Str → Str) : Prop where
  pe : PE X e (tT g)
  len : ∀ a b, a.length = 1 → b.length = 1 → (g a b).length ≤ n
theorem str_len (x y : Str) : (x ++ y).length = x.length + y.length := by rw [TL.len_tl, tl_append, List.length_append, ← TL.len_tl, ← TL.len_tl]
section
variable {X : Cx}
theorem pt_one {x : Str} {pos : Pos} (hN : X.N[2]? = some x := by rfl) (hv : Vis X.env.scope x := by first | exact Or.inl rfl | exact Or.inr (Or.inl rfl) | exact Or.inr (Or.inr rfl)) (hd : (x == ("__debug__" : Str)) = false := by decide)
    (hcd : (x == ("__classdict__" : Str)) = false := by decide) : PT X (.Name x pos) 1 (fun a _ => a) :=
  ⟨PE.imp (pe_var hN hv hd hcd) fun σ H Q ⟨a, b, h1, _, _, _, q⟩ => ⟨_, h1, q⟩, fun a b h _ => by omega⟩
theorem pt_other {x : Str} {pos : Pos} (hN : X.N[3]? = some x := by rfl) (hv : Vis X.env.scope x := by first | exact Or.inl rfl | exact Or.inr (Or.inl rfl) | exact Or.inr (Or.inr rfl)) (hd : (x == ("__debug__" : Str)) = false := by decide)
    (hcd : (x == ("__classdict__" : Str)) = false := by decide) : PT X (.Name x pos) 1 (fun _ b => b) :=
  ⟨PE.imp (pe_var hN hv hd hcd) fun σ H Q ⟨a, b, _, h1, _, _, q⟩ => ⟨_, h1, q⟩, fun a b _ h => by omega⟩
theorem pt_lit {x : Str} {j pos} : PT X (.Constant (.str x) j pos) x.length (fun _ _ => x) :=
  ⟨PE.imp pe_str fun σ H Q ⟨a, b, _, _, _, _, q⟩ => q, fun a b _ _ => Nat.le_refl _⟩
theorem pt_cat {a b : Expr} {pos : Pos} {n m : Nat} {g h : Str → Str → Str} (ha : PT X a n g) (hb : PT X b m h) (le : n + m ≤ 1000) : PT X (.BinOp a .Add b pos) (n + m) (fun x y => g x y ++ h x y) :=
  ⟨PE.imp (pe_op op_add_str ha.pe hb.pe) fun σ H Q ⟨x, y, h1, h2, l1, l2, q⟩ => ⟨x, y, h1, h2, l1, l2, x, y, h1, h2, l1, l2, _, _, rfl, rfl, by
    have z1 := ha.len x y l1 l2
    have z2 := hb.len x y l1 l2
    have : 1000 ≤ sizeLine := by rw [sizeLine_eq]; decide
    omega, q⟩, fun x y l1 l2 => by
    have z1 := ha.len x y l1 l2
    have z2 := hb.len x y l1 l2
    rw [str_len]; omega⟩
end
/-! ### lists of such texts -/
structure PL (X : Cx) (es : List Expr) (g : Str → Str → List Str) : Prop where
  pa : PA X es (fun σ H Q => ∃ a b : Str, σ[2]? = some (some (.str a)) ∧ σ[3]? = some (some (.str b)) ∧ a.length = 1 ∧ b.length = 1 ∧ Q ((g a b).map V.str) H)
section
variable {X : Cx}
theorem pl_nil : PL X [] (fun _ _ => []) := ⟨⟨fun pos pins s σ H Q I ⟨a, b, _, _, _, _, q⟩ => pa_nil.run pos pins s σ H Q I q⟩⟩
theorem pl_cons {e : Expr} {es : List Expr} {n : Nat} {g : Str → Str → Str} {gs : Str → Str → List Str} (h : PT X e n g) (r : PL X es gs) (hs : starEach (e :: es) X.env = (false, eval e X.env) :: starEach es X.env := by rfl) : PL X (e :: es) (fun a b => g a b :: gs a b) :=
  ⟨⟨fun pos pins s σ H Q I ⟨a, b, h1, h2, l1, l2, q⟩ => (pa_cons h.pe r.pa hs).run pos pins s σ H Q I ⟨a, b, h1, h2, l1, l2, a, b, h1, h2, l1, l2, q⟩⟩⟩
/-- a list of such texts, at 2 and 3 -/
def tTs (n : Nat) (g : Str → Str → List Str) : TE := fun σ H Q => ∃ a b : Str, σ[2]? = some (some (.str a)) ∧ σ[3]? = some (some (.str b)) ∧ a.length = 1 ∧ b.length = 1 ∧ (g a b).length ≤ n ∧ ∀ H' l, Same H H' → H l = none → H' l = some (.lst ((g a b).map V.str)) → Q (.ref l) H'
theorem pl_lst {es : List Expr} {pos : Pos} {g : Str → Str → List Str} (h : PL X es g) : PE X (.List es pos) (tTs 100 g) :=
  PE.imp (pe_lst h.pa) fun σ H Q ⟨a, b, h1, h2, l1, l2, z, q⟩ => ⟨a, b, h1, h2, l1, l2, by rw [List.length_map]; exact Nat.le_trans z (by rw [sizeLine_eq]; decide), fun p np => q _ p (same_new np) np upd_same⟩
/-- the list at i and one more -/
def tTc (i : Nat) (g f : Str → Str → List Str) : TE := fun σ H Q => ∃ (a b : Str) (l0 : Addr), σ[2]? = some (some (.str a)) ∧ σ[3]? = some (some (.str b)) ∧ a.length = 1 ∧ b.length = 1 ∧ (g a b).length ≤ 100 ∧ (f a b).length ≤ 100 ∧ σ[i]? = some (some (.ref l0)) ∧ H l0 = some (.lst ((g a b).map V.str)) ∧
  ∀ H' l, Same H H' → H' l = some (.lst ((g a b ++ f a b).map V.str)) → Q (.ref l) H'
theorem pl_cat {e : Expr} {es : List Expr} {i : Nat} {pos pos2 : Pos} {g f : Str → Str → List Str} (he : PE X e (tVar i)) (h : PL X es f) : PE X (.BinOp e .Add (.List es pos) pos2) (tTc i g f) :=
  PE.imp (pe_op op_cat he (pl_lst h)) fun σ H Q ⟨a, b, l0, h1, h2, l1, l2, z1, z2, hi, h0, q⟩ => ⟨_, hi, a, b, h1, h2, l1, l2, z2, fun H' l e nl hl => ⟨l0, l, _, _, rfl, rfl, e _ _ h0, hl, by rw [List.length_map, List.length_map]; exact Nat.le_trans (Nat.add_le_add z1 z2) (by rw [sizeLine_eq]; decide), fun p np => q _ p (e.trans (same_new np)) (by rw [List.map_append]; exact upd_same)⟩⟩
end
/-! ### lists of texts -/
def Sgn (w : Str) : Prop := ∀ c ∈ tl w, c < 128
def sgnB (w : Str) : Bool := (tl w).all fun c => decide (c < 128)
theorem sgn_by {w : Str} (h : sgnB w = true) : Sgn w := fun c hc => of_decide_eq_true (List.all_eq_true.mp h c hc)
theorem Sgn.lay {w : Str} (h : Sgn w) : (PyData.str w).canLay0 = true := by
  rw [PyData.canLay0]
  unfold PyData.strOk
  rw [← Array.all_toList]
  exact List.all_eq_true.mpr fun c hc => decide_eq_true (by have := h c hc; omega)
abbrev strsD (ts : List Str) : List PyData := ts.map PyData.str
theorem lay_strs : ∀ {ts : List Str}, (∀ t ∈ ts, Sgn t) → PyData.canLayAll0 (strsD ts) = true
  | [], _ => by simp [PyData.canLayAll0]
  | t :: ts, h => by
    simp only [List.map_cons, PyData.canLayAll0]
    exact Bool.and_eq_true_iff.mpr ⟨(h t List.mem_cons_self).lay, lay_strs fun x hx => h x (List.mem_cons_of_mem _ hx)⟩
theorem depth_strs : ∀ ts : List Str, PyData.depthAll (strsD ts) ≤ 1
  | [] => by simp [PyData.depthAll]
  | t :: ts => by
    simp only [List.map_cons, PyData.depthAll, PyData.depth]
    have := depth_strs ts
    unfold strsD at this
    omega
theorem shapedS {ts : List Str} (h : ∀ t ∈ ts, Sgn t) : SeqAt.shaped (.list (strsD ts)) = true ∧ PyData.eqv (.list (strsD ts)) (.list (strsD ts)) = true := by
  have hl : (PyData.list (strsD ts)).canLay0 = true := by simp only [PyData.canLay0]; exact lay_strs h
  refine ⟨?_, SeqAt.eqv_refl _ hl⟩
  unfold SeqAt.shaped
  rw [hl, decide_eq_true (by simp only [PyData.depth]; have := depth_strs ts; omega)]
  rfl
theorem dp_strs {K : PySem.W.Frag} {H : Hp} : ∀ ts : List Str, DpAll K H (ts.map V.str) (strsD ts)
  | [] => .nil
  | t :: ts => .cons (.str t) (dp_strs ts)
/-! ### the texts that are right -/
def lineT (a b : Str) : Str := ((((a ++ (" " : Str)) ++ b) ++ ("\n" : Str)) ++ b) ++ ("\n" : Str)
def workT (a b : Str) : Str := (a ++ (" - - " : Str)) ++ b
/-- what the kernel looks at, for all pairs of digits -/
def rightB (a b : Int) : Bool :=
  decide (Wr.textS [a, a, -1, -1, b] = (((num a ++ (" " : Str)) ++ num a) ++ (" - - " : Str)) ++ num b) && (decide (Wr.textS [b] = num b) &&
  (decide (Wr.lineS [[a, -1, b], [b]] = ((((num a ++ (" - " : Str)) ++ num b) ++ ("\n" : Str)) ++ num b) ++ ("\n" : Str)) && (decide (Wr.lineS [[a]] = num a ++ ("\n" : Str)) &&
  (lineCk (lineT (num a) (num b)) && (decide ((rowsT (lineT (num a) (num b))).dropLast = [(num a ++ (" " : Str)) ++ num b, num b]) && (decide (wordsT ((num a ++ (" " : Str)) ++ num b) = [a, b].map Wr.partS) &&
  (decide (wordsT (num b) = [b].map Wr.partS) && (decide (wordsT (workT (num a) (num b)) = [a, -1, -1, b].map Wr.partS) && (rowCk (workT (num a) (num b)) && (rowCk (num b) &&
  (sgnB (num a) && (sgnB (num b) && (decide ((num a).length = 1) && decide ((num b).length = 1))))))))))))))
theorem right_all : ((List.range 10).all fun a => (List.range 10).all fun b => rightB ((a : Nat) : Int) ((b : Nat) : Int)) = true := by decide +kernel
structure RightOk (a b : Int) : Prop where
  w1 : Wr.textS [a, a, -1, -1, b] = (((num a ++ (" " : Str)) ++ num a) ++ (" - - " : Str)) ++ num b
  w2 : Wr.textS [b] = num b
  l1 : Wr.lineS [[a, -1, b], [b]] = ((((num a ++ (" - " : Str)) ++ num b) ++ ("\n" : Str)) ++ num b) ++ ("\n" : Str)
  l2 : Wr.lineS [[a]] = num a ++ ("\n" : Str)
  ok : lineCk (lineT (num a) (num b)) = true
  rows : (rowsT (lineT (num a) (num b))).dropLast = [(num a ++ (" " : Str)) ++ num b, num b]
  r1 : wordsT ((num a ++ (" " : Str)) ++ num b) = [a, b].map Wr.partS
  r2 : wordsT (num b) = [b].map Wr.partS
  r3 : wordsT (workT (num a) (num b)) = [a, -1, -1, b].map Wr.partS
  k3 : rowCk (workT (num a) (num b)) = true
  k2 : rowCk (num b) = true
  sa : Sgn (num a)
  sb : Sgn (num b)
  la : (num a).length = 1
  lb : (num b).length = 1
theorem right_ok {a b : Int} (ha : 0 ≤ a ∧ a ≤ 9) (hb : 0 ≤ b ∧ b ≤ 9) : RightOk a b := by
  obtain ⟨n, rfl⟩ : ∃ n : Nat, a = n := ⟨a.toNat, by omega⟩
  obtain ⟨m, rfl⟩ : ∃ m : Nat, b = m := ⟨b.toNat, by omega⟩
  have h := List.all_eq_true.mp (List.all_eq_true.mp right_all n (List.mem_range.mpr (by omega))) m (List.mem_range.mpr (by omega))
  unfold rightB at h
  simp only [Bool.and_eq_true, decide_eq_true_eq] at h
  obtain ⟨h1, h2, h3, h4, h5, h6, h7, h8, h9, h10, h11, h12, h13, h14, h15⟩ := h
  exact ⟨h1, h2, h3, h4, h5, h6, h7, h8, h9, h10, h11, sgn_by h12, sgn_by h13, h14, h15⟩
theorem str_log {a : Int} (ha : 0 ≤ a ∧ a ≤ 9) : a.natAbs.log2 < 1920 := by
  have := Nat.log2_le_self a.natAbs
  omega
end Sg
set_option Elab.async false
set_option linter.all false
set_option maxRecDepth 100000
set_option maxHeartbeats 4000000
namespace Sg
open PySem PySem.Spec PyProof.Rows L2 StX
open TL (tl tl_append numL)
def sp0 (sp : Sp) : Sp := fun vs H Q _ => sp vs H Q E0
def tLab (K : PySem.W.Frag) (C : Addr) : TE := fun σ H Q => ∃ a b : Int, σ[0]? = some (some (.int a)) ∧ σ[1]? = some (some (.int b)) ∧ GoodL [[a, -1, b], [b]] ∧ ∀ H' x, Same H H' → LineAt K C H' x [[a, -1, b], [b]] → Q (.ref x) H'
def tLa (K : PySem.W.Frag) (C : Addr) : TE := fun σ H Q => ∃ a : Int, σ[0]? = some (some (.int a)) ∧ GoodL [[a]] ∧ ∀ H' x, Same H H' → LineAt K C H' x [[a]] → Q (.ref x) H'
theorem lab_fin {K : PySem.W.Frag} {C : Addr} {σ : L2.St} {H : Hp} {Q : VK} (big : 1000 ≤ sizeLine) (q : tLab K C σ H Q) : ∃ v, σ[0]? = some (some v) ∧ ∃ i : Int, V.int 1 = .int i ∧ ∃ u, σ[1]? = some (some u) ∧ 3 ≤ sizeLine ∧ ∀ t, H t = none → ∃ u', σ[1]? = some (some u') ∧ 1 ≤ sizeLine ∧ ∀ t2, (upd H t (.tup [v, .int (-i), u])) t2 = none →
    ∀ z dz, (upd (upd H t (.tup [v, .int (-i), u])) t2 (.tup [u'])) z = none → (upd (upd H t (.tup [v, .int (-i), u])) t2 (.tup [u'])) dz = none → dz ≠ z →
      spInit K C [V.ref z, V.ref t, V.ref t2] (upd (upd (upd (upd H t (.tup [v, .int (-i), u])) t2 (.tup [u'])) dz (.own z)) z (.ins C dz [])) (fun v H2 => v = .non ∧ Q (.ref z) H2) E0 := by
  obtain ⟨a, b, h0, h1, gL, q⟩ := q
  refine ⟨_, h0, 1, rfl, _, h1, by omega, fun t nt => ⟨_, h1, by omega, fun u nu => ?_⟩⟩
  exact make_line (vs := [.ref t, .ref u]) (ws := [[a, -1, b], [b]]) (.on (.ofInts (ns := [a, -1, b]) (.of (same_new nu _ _ upd_same))) (.on (.ofInts (ns := [b]) (.of upd_same)) .no)) gL fun H' x e _ hL => q H' x ((same_new nt).trans ((same_new nu).trans e)) hL
theorem la_fin {K : PySem.W.Frag} {C : Addr} {σ : L2.St} {H : Hp} {Q : VK} (big : 1000 ≤ sizeLine) (q : tLa K C σ H Q) : ∃ v, σ[0]? = some (some v) ∧ 1 ≤ sizeLine ∧ ∀ t, H t = none →
    ∀ z dz, (upd H t (.tup [v])) z = none → (upd H t (.tup [v])) dz = none → dz ≠ z → spInit K C [V.ref z, V.ref t] (upd (upd (upd H t (.tup [v])) dz (.own z)) z (.ins C dz [])) (fun v H2 => v = .non ∧ Q (.ref z) H2) E0 := by
  obtain ⟨a, h0, gL, q⟩ := q
  refine ⟨_, h0, by omega, fun t nt => ?_⟩
  exact make_line (vs := [.ref t]) (ws := [[a]]) (.on (.ofInts (ns := [a]) (.of upd_same)) .no) gL fun H' x e _ hL => q H' x ((same_new nt).trans e) hL
section
variable {P : Program} {w : World} {K : PySem.W.Frag} {mg : Str → Option Value} {base : Heap}
def spRight (K : PySem.W.Frag) : Sp := fun vs H Q _ => ∃ a b : Int, vs = [.int a, .int b] ∧ (0 ≤ a ∧ a ≤ 9) ∧ (0 ≤ b ∧ b ≤ 9) ∧ ∀ H', Same H H' → Q (.bl true) H'
set_option maxHeartbeats 16000000 in
theorem ok_right {f fi CL Cn h1 h2 h3 h4 h5 h6 h7 : Addr} {fd e1 e2 e3 e4 e5 e6 e7 : FuncData} {k kM j : Nat} (F : Fun K "_law_right" "_law_right" s_l_right f fd) (TL : LC K mg CL) (Mi : Mk K CL fi) (Gi : FnR P w K mg base CX0 k fi (spInit K CL)) (M : Meths2 P w K mg base kM CL) (hkM : kM + 2 ≤ k) (hj : j ≤ k)
    (D1 : FnOk P w K mg base CX0 j h1 e1 ["work"] (Wr.spWorkText K)) (k1 : PySem.W.keepIn K (.ref h1) = true) (b1 : Binds K e1 ["work"] []) (v1 : mg "work_text" = some (.ref h1))
    (D2 : FnOk P w K mg base CX0 j h2 e2 ["line"] (Wr.spLineText K CL)) (k2 : PySem.W.keepIn K (.ref h2) = true) (b2 : Binds K e2 ["line"] []) (v2 : mg "line_text" = some (.ref h2))
    (D3 : FnOk P w K mg base CX0 j h3 e3 ["line", "lap"] (Wr.spLapText K CL)) (k3 : PySem.W.keepIn K (.ref h3) = true) (b3 : Binds K e3 ["line", "lap"] []) (v3 : mg "lap_text" = some (.ref h3))
    (D4 : FnOk P w K mg base CX0 j h4 e4 ["line", "plan"] (Wr.spPlanText K CL)) (k4 : PySem.W.keepIn K (.ref h4) = true) (b4 : Binds K e4 ["line", "plan"] []) (v4 : mg "plan_text" = some (.ref h4))
    (D5 : FnOk P w K mg base CX0 j h5 e5 ["text"] (sp0 (spReadLine K CL Cn))) (k5 : PySem.W.keepIn K (.ref h5) = true) (b5 : Binds K e5 ["text"] []) (v5 : mg "read_line" = some (.ref h5))
    (D6 : FnOk P w K mg base CX0 j h6 e6 ["text"] (sp0 (spReadT K CL Cn WorkD))) (k6 : PySem.W.keepIn K (.ref h6) = true) (b6 : Binds K e6 ["text"] []) (v6 : mg "read_work" = some (.ref h6))
    (D7 : FnG P w K mg base j h7 e7 ["_law_actual", "_law_due"] (spSame K)) (k7 : PySem.W.keepIn K (.ref h7) = true) (b7 : Binds K e7 ["_law_actual", "_law_due"] []) (v7 : mg "_law_same" = some (.ref h7))
    (m1 : mg "str" = none) : FnG P w K mg base (k + 2) f fd ["_law_a", "_law_b"] (spRight K) := by
  refine fnG_mk F sc_l_right (fun vs H Q h => ?_) (fun cdv A outer s H vs Q hgd hr h => ?_)
  · obtain ⟨a, b, rfl, _⟩ := h; rfl
  · obtain ⟨a, b, rfl, ha, hb, q⟩ := h
    have big : 1000 ≤ sizeLine := by rw [sizeLine_eq]; decide
    have hu64 := hr.units
    obtain ⟨w1, w2, l1, l2, ok, rows, r1, r2, r3, ck3, ck2, sa, sb, la, lb⟩ := right_ok ha hb
    refine ⟨_, (pss_cons (ps_par (i := 2) (j := 3) (by rfl) sc_l_right.nd rfl rfl (by decide) rfl rfl (pa_cons (pe_callTy call_str_int (by rfl) m1 (by decide +kernel) (pa_cons (pv 0) pa_nil)) (pa_cons (pe_callTy call_str_int (by rfl) m1 (by decide +kernel) (pa_cons (pv 1) pa_nil)) pa_nil)) (by rfl))
      (pss_cons (ps_set (i := 4) sc_l_right.nd rfl (.inl rfl) (PE.imp (t' := tLab K CL) (pe_makeR Mi Gi (hr.mono (by omega)) (by rfl) TL.mgC pass0 (pa_cons (pe_tup (pa_cons (pv 0) (pa_cons (pe_un un_neg pe_int) (pa_cons (pv 1) pa_nil)))) (pa_cons (pe_tup (pa_cons (pv 1) pa_nil)) pa_nil))) (fun σ H Q q => lab_fin big q)))
      (pss_cons (ps_set (i := 5) sc_l_right.nd rfl (.inl rfl) (pe_lst (pa_cons (pe_call D1 (hr.mono (by omega)) (by rfl) v1 k1 b1 .nil pass0 (pa_cons (pe_tup (pa_cons (pv 0) (pa_cons (pv 0) (pa_cons (pe_un un_neg pe_int) (pa_cons (pe_un un_neg pe_int) (pa_cons (pv 1) pa_nil)))))) pa_nil)) (pa_cons (pe_call D1 (hr.mono (by omega)) (by rfl) v1 k1 b1 .nil pass0 (pa_cons (pe_tup (pa_cons (pv 1) pa_nil)) pa_nil)) (pa_cons (pe_call D2 (hr.mono (by omega)) (by rfl) v2 k2 b2 .nil pass0 (pa_cons (pv 4) pa_nil)) (pa_cons (pe_call D2 (hr.mono (by omega)) (by rfl) v2 k2 b2 .nil pass0 (pa_cons (PE.imp (t' := tLa K CL) (pe_makeR Mi Gi (hr.mono (by omega)) (by rfl) TL.mgC pass0 (pa_cons (pe_tup (pa_cons (pv 0) pa_nil)) pa_nil)) (fun σ H Q q => la_fin big q)) pa_nil)) pa_nil))))))
      (pss_cons (ps_if (pt_cmpR (op_neD hu64) (pv 5) (pe_lst (pa_cons ((pt_cat (pt_cat (pt_cat (pt_cat pt_one pt_lit (by decide +kernel)) pt_one (by decide +kernel)) pt_lit (by decide +kernel)) pt_other (by decide +kernel))).pe (pa_cons (pt_other).pe (pa_cons ((pt_cat (pt_cat (pt_cat (pt_cat (pt_cat pt_one pt_lit (by decide +kernel)) pt_other (by decide +kernel)) pt_lit (by decide +kernel)) pt_other (by decide +kernel)) pt_lit (by decide +kernel))).pe (pa_cons ((pt_cat pt_one pt_lit (by decide +kernel))).pe pa_nil))))) (nomark _)) (pss_one (ps_ret pe_bl)) pss_nil)
      (pss_cons (ps_set (i := 5) sc_l_right.nd rfl (.inl rfl) (pe_lst (pa_cons (pe_call D3 (hr.mono (by omega)) (by rfl) v3 k3 b3 .nil pass0 (pa_cons (pv 4) (pa_cons (pe_tup (pa_cons (pe_un un_neg pe_int) (pa_cons (pe_un un_neg pe_int) (pa_cons pe_int pa_nil)))) pa_nil))) (pa_cons (pe_call D3 (hr.mono (by omega)) (by rfl) v3 k3 b3 .nil pass0 (pa_cons (pv 4) (pa_cons (pe_tup (pa_cons pe_int pa_nil)) pa_nil))) (pa_cons (pe_call D3 (hr.mono (by omega)) (by rfl) v3 k3 b3 .nil pass0 (pa_cons (pv 4) (pa_cons (pe_tup (pa_cons (pe_un un_neg pe_int) pa_nil)) pa_nil))) (pa_cons (pe_call D3 (hr.mono (by omega)) (by rfl) v3 k3 b3 .nil pass0 (pa_cons (pv 4) (pa_cons (pe_tup (pa_cons pe_int (pa_cons (pe_un un_neg pe_int) (pa_cons pe_int (pa_cons pe_int pa_nil))))) pa_nil))) pa_nil))))))
      (pss_cons (ps_if (pt_cmpR (op_neD hu64) (pv 5) (pe_lst (pa_cons pe_str (pa_cons pe_str (pa_cons pe_str (pa_cons pe_str pa_nil))))) (nomark _)) (pss_one (ps_ret pe_bl)) pss_nil)
      (pss_cons (ps_set (i := 5) sc_l_right.nd rfl (.inl rfl) (pe_lst (pa_cons (pe_call D4 (hr.mono (by omega)) (by rfl) v4 k4 b4 .nil pass0 (pa_cons (pv 4) (pa_cons (pe_tup pa_nil) pa_nil))) (pa_cons (pe_call D4 (hr.mono (by omega)) (by rfl) v4 k4 b4 .nil pass0 (pa_cons (pv 4) (pa_cons (pe_tup (pa_cons (pe_tup (pa_cons pe_int (pa_cons pe_int pa_nil))) (pa_cons (pe_tup (pa_cons pe_int (pa_cons pe_int pa_nil))) pa_nil))) pa_nil))) (pa_cons (pe_call D4 (hr.mono (by omega)) (by rfl) v4 k4 b4 .nil pass0 (pa_cons (pv 4) (pa_cons (pe_tup (pa_cons (pe_tup (pa_cons pe_int (pa_cons pe_int pa_nil))) pa_nil)) pa_nil))) pa_nil)))))
      (pss_cons (ps_if (pt_cmpR (op_neD hu64) (pv 5) (pe_lst (pa_cons pe_str (pa_cons pe_str (pa_cons pe_str pa_nil)))) (nomark _)) (pss_one (ps_ret pe_bl)) pss_nil)
      (pss_cons (ps_set (i := 6) sc_l_right.nd rfl (.inl rfl) (pe_call D5 (hr.mono (by omega)) (by rfl) v5 k5 b5 .nil pass0 (pa_cons ((pt_cat (pt_cat (pt_cat (pt_cat (pt_cat pt_one pt_lit (by decide +kernel)) pt_other (by decide +kernel)) pt_lit (by decide +kernel)) pt_other (by decide +kernel)) pt_lit (by decide +kernel))).pe pa_nil)))
      (pss_cons (ps_set (i := 5) sc_l_right.nd rfl (.inl rfl) (pe_lst (pa_cons (pe_call D6 (hr.mono (by omega)) (by rfl) v6 k6 b6 .nil pass0 (pa_cons ((pt_cat (pt_cat pt_one pt_lit (by decide +kernel)) pt_other (by decide +kernel))).pe pa_nil)) (pa_cons (pe_call D6 (hr.mono (by omega)) (by rfl) v6 k6 b6 .nil pass0 (pa_cons (pv 3) pa_nil)) (pa_cons (M.m.pWorks (K := K) rfl (hr.mono (by omega)) (pv 6)) pa_nil)))))
      (pss_one (ps_ret (pe_callG D7 hgd (hr.mono (by omega)) (by rfl) v7 k7 b7 (pa_cons (pv 5) (pa_cons (pe_lst (pa_cons (pe_tup (pa_cons (pv 0) (pa_cons (pe_un un_neg pe_int) (pa_cons (pe_un un_neg pe_int) (pa_cons (pv 1) pa_nil))))) (pa_cons (pe_tup (pa_cons (pv 1) pa_nil)) (pa_cons (pe_tup (pa_cons (pe_tup (pa_cons (pv 0) (pa_cons (pv 1) pa_nil))) (pa_cons (pe_tup (pa_cons (pv 1) pa_nil)) pa_nil))) pa_nil)))) pa_nil))))))))))))))), ?_⟩
    have wk : ∀ ns : List Int, 1 ≤ ns.length → ns.length ≤ 60 → (∀ x ∈ ns, -1 ≤ x ∧ x ≤ 9) → (∀ x, ns[0]? = some x → 0 ≤ x) → (∀ x, ns[ns.length - 1]? = some x → 0 ≤ x) → IsWork ns := fun ns h1 h2 h3 h4 h5 =>
      ⟨h1, h2, h3, fun x hx => by have := h4 x hx; omega, fun x hx => by have := h5 x hx; omega⟩
    have wA : IsWork [a, -1, b] := wk _ (by show 1 ≤ 3; decide) (by show 3 ≤ 60; decide) (fun x hx => by simp at hx; omega) (fun x hx => by cases hx; omega) (fun x hx => by cases hx; omega)
    have wB : IsWork [b] := wk _ (by show 1 ≤ 1; decide) (by show 1 ≤ 60; decide) (fun x hx => by simp at hx; omega) (fun x hx => by cases hx; omega) (fun x hx => by cases hx; omega)
    have wC : IsWork [a] := wk _ (by show 1 ≤ 1; decide) (by show 1 ≤ 60; decide) (fun x hx => by simp at hx; omega) (fun x hx => by cases hx; omega) (fun x hx => by cases hx; omega)
    have wD : IsWork [a, a, -1, -1, b] := wk _ (by show 1 ≤ 5; decide) (by show 5 ≤ 60; decide) (fun x hx => by simp at hx; omega) (fun x hx => by cases hx; omega) (fun x hx => by cases hx; omega)
    have gL : GoodL [[a, -1, b], [b]] := ⟨by show 1 ≤ 2; decide, by show 2 ≤ 3; decide, fun w hw => by
      simp only [List.mem_cons, List.not_mem_nil, or_false] at hw
      rcases hw with rfl | rfl
      · exact wA
      · exact wB⟩
    have gM : GoodL [[a]] := ⟨by show 1 ≤ 1; decide, by show 1 ≤ 3; decide, fun w hw => by rw [List.mem_singleton.mp hw]; exact wC⟩
    refine ⟨.int a, rfl, a, rfl, str_log ha, .int b, rfl, b, rfl, str_log hb, _, _, rfl, ?_⟩
    -- the line
    refine ⟨a, b, rfl, rfl, gL, fun H1 x s1 hL => ?_⟩
    -- texts of works and lines
    refine ⟨.int a, rfl, .int a, rfl, 1, rfl, 1, rfl, .int b, rfl, by show 5 ≤ sizeLine; omega, fun t nt => ⟨t, [a, a, -1, -1, b], rfl, .of upd_same, wD, fun H2 e2 => ?_⟩⟩
    refine ⟨.int b, rfl, by show 1 ≤ sizeLine; omega, fun t2 nt2 => ⟨t2, [b], rfl, .of upd_same, wB, fun H3 e3 => ?_⟩⟩
    have s3 : Same H1 H3 := (same_new nt).trans (e2.trans ((same_new nt2).trans e3))
    refine ⟨.ref x, rfl, x, _, rfl, hL.stay (.of s3), fun H4 e4 => ?_⟩
    refine ⟨a, rfl, gM, fun H5 y e5 hL5 => ⟨y, _, rfl, hL5, fun H6 e6 => ⟨by show 4 ≤ sizeLine; omega, fun L nL => ?_⟩⟩⟩
    have s7 : Same H1 (upd H6 L (.lst [V.str (Wr.textS [a, a, -1, -1, b]), V.str (Wr.textS [b]), V.str (Wr.lineS [[a, -1, b], [b]]), V.str (Wr.lineS [[a]])])) :=
      s3.trans (e4.trans (e5.trans (e6.trans (same_new nL))))
    have hT7 : (upd H6 L (.lst [V.str (Wr.textS [a, a, -1, -1, b]), V.str (Wr.textS [b]), V.str (Wr.lineS [[a, -1, b], [b]]), V.str (Wr.lineS [[a]])])) L = some (.lst [V.str (Wr.textS [a, a, -1, -1, b]), V.str (Wr.textS [b]), V.str (Wr.lineS [[a, -1, b], [b]]), V.str (Wr.lineS [[a]])]) := upd_same
    generalize upd H6 L (.lst [V.str (Wr.textS [a, a, -1, -1, b]), V.str (Wr.textS [b]), V.str (Wr.lineS [[a, -1, b], [b]]), V.str (Wr.lineS [[a]])]) = H7 at s7 hT7 ⊢
    rw [w1, w2, l1, l2] at hT7
    clear nL e6 e5 e4 s3 e3 nt2 e2 nt
    have sapp : ∀ {x y : Str}, Sgn x → Sgn y → Sgn (x ++ y) := fun hx hy c hc => by
      rw [tl_append] at hc
      exact (List.mem_append.mp hc).elim (hx c) (hy c)
    have lits : Sgn (" " : Str) ∧ Sgn (" - - " : Str) ∧ Sgn (" - " : Str) ∧ Sgn ("\n" : Str) := ⟨sgn_by (by decide +kernel), sgn_by (by decide +kernel), sgn_by (by decide +kernel), sgn_by (by decide +kernel)⟩
    obtain ⟨z1, z2, z3, z4⟩ := lits
    refine ⟨.ref L, rfl, num a, num b, rfl, rfl, la, lb, num a, num b, rfl, rfl, la, lb, num a, num b, rfl, rfl, la, lb, num a, num b, rfl, rfl, la, lb, by show 4 ≤ sizeLine; omega, fun L2 nL2 => ?_⟩
    obtain ⟨q1, q2⟩ := shapedS (ts := [(((num a ++ (" " : Str)) ++ num a) ++ (" - - " : Str)) ++ num b, num b, ((((num a ++ (" - " : Str)) ++ num b) ++ ("\n" : Str)) ++ num b) ++ ("\n" : Str), num a ++ ("\n" : Str)]) fun t ht => by
      simp only [List.mem_cons, List.not_mem_nil, or_false] at ht
      rcases ht with rfl | rfl | rfl | rfl
      · exact sapp (sapp (sapp (sapp sa z1) sa) z2) sb
      · exact sb
      · exact sapp (sapp (sapp (sapp (sapp sa z3) sb) z4) sb) z4
      · exact sapp sa z4
    refine ⟨_, _, .lst (.of (same_new nL2 _ _ hT7)) (dp_strs [(((num a ++ (" " : Str)) ++ num a) ++ (" - - " : Str)) ++ num b, num b, ((((num a ++ (" - " : Str)) ++ num b) ++ ("\n" : Str)) ++ num b) ++ ("\n" : Str), num a ++ ("\n" : Str)]), .lst (.of upd_same) (dp_strs [(((num a ++ (" " : Str)) ++ num a) ++ (" - - " : Str)) ++ num b, num b, ((((num a ++ (" - " : Str)) ++ num b) ++ ("\n" : Str)) ++ num b) ++ ("\n" : Str), num a ++ ("\n" : Str)]), q1, q1, _, rfl, ?_⟩
    rw [q2]
    refine iteF ?_
    have s8 := s7.trans (same_new (o := .lst [V.str ((((num a ++ (" " : Str)) ++ num a) ++ (" - - " : Str)) ++ num b), V.str (num b), V.str (((((num a ++ (" - " : Str)) ++ num b) ++ ("\n" : Str)) ++ num b) ++ ("\n" : Str)), V.str (num a ++ ("\n" : Str))]) nL2)
    generalize upd H7 L2 (.lst [V.str ((((num a ++ (" " : Str)) ++ num a) ++ (" - - " : Str)) ++ num b), V.str (num b), V.str (((((num a ++ (" - " : Str)) ++ num b) ++ ("\n" : Str)) ++ num b) ++ ("\n" : Str)), V.str (num a ++ ("\n" : Str))]) = H8 at s8 ⊢
    clear nL2 q1 q2 hT7 s7 w1 l1 l2
    -- texts of laps
    have gl : ∀ lp : List Int, 1 ≤ lp.length → lp.length ≤ 900 → (∀ x ∈ lp, -1 ≤ x ∧ x < 2) → Wr.GoodLap [[a, -1, b], [b]].length lp := fun lp h1 h2 h3 => ⟨h1, h2, h3⟩
    refine ⟨.ref x, rfl, 1, rfl, 1, rfl, by show 3 ≤ sizeLine; omega, fun t nt => ⟨x, t, _, [-1, -1, 0], rfl, hL.stay (.of (s8.trans (same_new nt))), .of upd_same, gl _ (by decide) (by decide) (by decide), fun H9 e9 => ?_⟩⟩
    have s9 := s8.trans ((same_new nt).trans e9)
    refine ⟨.ref x, rfl, by show 1 ≤ sizeLine; omega, fun t nt => ⟨x, t, _, [1], rfl, hL.stay (.of (s9.trans (same_new nt))), .of upd_same, gl _ (by decide) (by decide) (by decide), fun HA eA => ?_⟩⟩
    have sA := s9.trans ((same_new nt).trans eA)
    refine ⟨.ref x, rfl, 1, rfl, by show 1 ≤ sizeLine; omega, fun t nt => ⟨x, t, _, [-1], rfl, hL.stay (.of (sA.trans (same_new nt))), .of upd_same, gl _ (by decide) (by decide) (by decide), fun HB eB => ?_⟩⟩
    have sB := sA.trans ((same_new nt).trans eB)
    refine ⟨.ref x, rfl, 1, rfl, by show 4 ≤ sizeLine; omega, fun t nt => ⟨x, t, _, [0, -1, 1, 1], rfl, hL.stay (.of (sB.trans (same_new nt))), .of upd_same, gl _ (by decide) (by decide) (by decide), fun HC eC => ⟨by show 4 ≤ sizeLine; omega, fun L nL => ?_⟩⟩⟩
    have sC := sB.trans ((same_new nt).trans eC)
    have d1 : Wr.textS [-1, -1, 0] = ("- - 0" : Str) ∧ Wr.textS [1] = ("1" : Str) ∧ Wr.textS [-1] = ("-" : Str) ∧ Wr.textS [0, -1, 1, 1] = ("0 - 1 1" : Str) := by decide +kernel
    rw [d1.1, d1.2.1, d1.2.2.1, d1.2.2.2]
    have sD := sC.trans (same_new (o := .lst [V.str ("- - 0" : Str), V.str ("1" : Str), V.str ("-" : Str), V.str ("0 - 1 1" : Str)]) nL)
    have hTD : (upd HC L (.lst [V.str ("- - 0" : Str), V.str ("1" : Str), V.str ("-" : Str), V.str ("0 - 1 1" : Str)])) L = some (.lst ((["- - 0", "1", "-", "0 - 1 1"] : List Str).map V.str)) := upd_same
    generalize upd HC L (.lst [V.str ("- - 0" : Str), V.str ("1" : Str), V.str ("-" : Str), V.str ("0 - 1 1" : Str)]) = HD at sD hTD ⊢
    refine ⟨.ref L, rfl, by show 4 ≤ sizeLine; omega, fun L2 nL2 => ?_⟩
    obtain ⟨q1, q2⟩ := shapedS (ts := (["- - 0", "1", "-", "0 - 1 1"] : List Str)) fun t ht => sgn_by (List.all_eq_true.mp (show (["- - 0", "1", "-", "0 - 1 1"] : List Str).all sgnB = true by decide +kernel) t ht)
    refine ⟨_, _, .lst (.of (same_new nL2 _ _ hTD)) (dp_strs (["- - 0", "1", "-", "0 - 1 1"] : List Str)), .lst (.of upd_same) (dp_strs (["- - 0", "1", "-", "0 - 1 1"] : List Str)), q1, q1, _, rfl, ?_⟩
    rw [q2]
    refine iteF ?_
    have sE := sD.trans (same_new (o := .lst [V.str ("- - 0" : Str), V.str ("1" : Str), V.str ("-" : Str), V.str ("0 - 1 1" : Str)]) nL2)
    generalize upd HD L2 (.lst [V.str ("- - 0" : Str), V.str ("1" : Str), V.str ("-" : Str), V.str ("0 - 1 1" : Str)]) = HE at sE ⊢
    clear nL2 q1 q2 hTD sD sC eC sB eB sA eA s9 e9 s8 nL nt
    -- texts of plans
    have gp : ∀ ps : List (Int × Nat), ps.length ≤ 60 → (∀ s ∈ ps, 0 ≤ s.1 ∧ s.1 < 1000 ∧ s.2 < 2) → (∀ (i : Nat) (s : Int × Nat), ps[i]? = some s → Wr.leastAt ps i ≤ s.1) → Wr.GoodP [[a, -1, b], [b]].length ps ∧ Wr.Sm ps := fun ps h1 h2 h3 =>
      ⟨⟨h1, fun s hs => (h2 s hs).2.2, h3⟩, ⟨h1, fun s hs => (h2 s hs).1, fun s hs => Int.lt_trans (h2 s hs).2.1 (by decide), fun s hs => by have := (h2 s hs).2.2; omega⟩⟩
    obtain ⟨g0, m0⟩ := gp [] (by decide) (fun s hs => nomatch hs) (fun i s hs => nomatch hs)
    obtain ⟨g1, m1'⟩ := gp [(0, 0), (2, 1)] (by decide) (by decide) (fun i s hs => by
      rcases i with _ | _ | i
      · cases hs; decide
      · cases hs; decide
      · cases hs)
    obtain ⟨g2, m2'⟩ := gp [(10, 1)] (by decide) (by decide) (fun i s hs => by
      rcases i with _ | i
      · cases hs; decide
      · cases hs)
    refine ⟨.ref x, rfl, Nat.zero_le _, fun t nt => ⟨x, t, _, [], rfl, hL.stay (.of (sE.trans (same_new nt))), .tu (.of upd_same) .no, g0, m0, fun HF eF => ?_⟩⟩
    have sF := sE.trans ((same_new nt).trans eF)
    refine ⟨.ref x, rfl, by show 2 ≤ sizeLine; omega, fun t1 nt1 => ⟨by show 2 ≤ sizeLine; omega, fun t2 nt2 => ⟨by show 2 ≤ sizeLine; omega, fun t3 nt3 => ?_⟩⟩⟩
    have e3 := same_new (o := .tup [V.ref t1, V.ref t2]) nt3
    have hA1 : (upd (upd (upd HF t1 (.tup [V.int 0, V.int 0])) t2 (.tup [V.int 2, V.int 1])) t3 (.tup [V.ref t1, V.ref t2])) t1 = some (.tup [V.int 0, V.int 0]) := e3 _ _ (same_new nt2 _ _ upd_same)
    have hA2 : (upd (upd (upd HF t1 (.tup [V.int 0, V.int 0])) t2 (.tup [V.int 2, V.int 1])) t3 (.tup [V.ref t1, V.ref t2])) t2 = some (.tup [V.int 2, V.int 1]) := e3 _ _ upd_same
    have hA3 : (upd (upd (upd HF t1 (.tup [V.int 0, V.int 0])) t2 (.tup [V.int 2, V.int 1])) t3 (.tup [V.ref t1, V.ref t2])) t3 = some (.tup [V.ref t1, V.ref t2]) := upd_same
    have sG := sF.trans ((same_new nt1).trans ((same_new nt2).trans e3))
    generalize upd (upd (upd HF t1 (.tup [V.int 0, V.int 0])) t2 (.tup [V.int 2, V.int 1])) t3 (.tup [V.ref t1, V.ref t2]) = HG at hA1 hA2 hA3 sG ⊢
    refine ⟨x, t3, _, [(0, 0), (2, 1)], rfl, hL.stay (.of sG), .tu (.of hA3) (.on (.ofInts (ns := [0, 0]) (.of hA1)) (.on (.ofInts (ns := [2, 1]) (.of hA2)) .no)), g1, m1', fun HI eI => ?_⟩
    have sI := sG.trans eI
    refine ⟨.ref x, rfl, by show 2 ≤ sizeLine; omega, fun t4 nt4 => ⟨by show 1 ≤ sizeLine; omega, fun t5 nt5 => ?_⟩⟩
    have e5 := same_new (o := .tup [V.ref t4]) nt5
    have hB1 : (upd (upd HI t4 (.tup [V.int 10, V.int 1])) t5 (.tup [V.ref t4])) t4 = some (.tup [V.int 10, V.int 1]) := e5 _ _ upd_same
    have hB2 : (upd (upd HI t4 (.tup [V.int 10, V.int 1])) t5 (.tup [V.ref t4])) t5 = some (.tup [V.ref t4]) := upd_same
    have sJ := sI.trans ((same_new nt4).trans e5)
    generalize upd (upd HI t4 (.tup [V.int 10, V.int 1])) t5 (.tup [V.ref t4]) = HJ at hB1 hB2 sJ ⊢
    refine ⟨x, t5, _, [(10, 1)], rfl, hL.stay (.of sJ), .tu (.of hB2) (.on (.ofInts (ns := [10, 1]) (.of hB1)) .no), g2, m2', fun HK eK => ⟨by show 3 ≤ sizeLine; omega, fun L nL => ?_⟩⟩
    have d2 : Wr.planS [] = ("none" : Str) ∧ Wr.planS [(0, 0), (2, 1)] = ("0:0 2:1" : Str) ∧ Wr.planS [(10, 1)] = ("10:1" : Str) := by decide +kernel
    rw [d2.1, d2.2.1, d2.2.2]
    have sL := (sJ.trans eK).trans (same_new (o := .lst [V.str ("none" : Str), V.str ("0:0 2:1" : Str), V.str ("10:1" : Str)]) nL)
    have hTL : (upd HK L (.lst [V.str ("none" : Str), V.str ("0:0 2:1" : Str), V.str ("10:1" : Str)])) L = some (.lst ((["none", "0:0 2:1", "10:1"] : List Str).map V.str)) := upd_same
    generalize upd HK L (.lst [V.str ("none" : Str), V.str ("0:0 2:1" : Str), V.str ("10:1" : Str)]) = HL at sL hTL ⊢
    refine ⟨.ref L, rfl, by show 3 ≤ sizeLine; omega, fun L2 nL2 => ?_⟩
    obtain ⟨q1, q2⟩ := shapedS (ts := (["none", "0:0 2:1", "10:1"] : List Str)) fun t ht => sgn_by (List.all_eq_true.mp (show (["none", "0:0 2:1", "10:1"] : List Str).all sgnB = true by decide +kernel) t ht)
    refine ⟨_, _, .lst (.of (same_new nL2 _ _ hTL)) (dp_strs (["none", "0:0 2:1", "10:1"] : List Str)), .lst (.of upd_same) (dp_strs (["none", "0:0 2:1", "10:1"] : List Str)), q1, q1, _, rfl, ?_⟩
    rw [q2]
    refine iteF ?_
    have sM := sL.trans (same_new (o := .lst [V.str ("none" : Str), V.str ("0:0 2:1" : Str), V.str ("10:1" : Str)]) nL2)
    generalize upd HL L2 (.lst [V.str ("none" : Str), V.str ("0:0 2:1" : Str), V.str ("10:1" : Str)]) = HM at sM ⊢
    have tot := s1.trans sM
    clear nL2 q1 q2 hTL sL eK sJ hB1 hB2 nt5 nt4 e5 sI eI sG hA1 hA2 hA3 e3 nt3 nt2 nt1 sF eF nt sE sM nL s1 hL
    -- what is read
    refine ⟨num a, num b, rfl, rfl, la, lb, .str (lineT (num a) (num b)), .str (lineT (num a) (num b)), rfl, .str _, .inr ⟨lineT (num a) (num b), rfl, ?_, fun _ H1 x ws e1 hL hD => ?_, fun no => absurd (lineCk_iff.mp ok) no⟩⟩
    · unfold lineT
      rw [str_len, str_len, str_len, str_len, str_len, la, lb, show ("\n" : Str).length = 1 from by decide +kernel, show (" " : Str).length = 1 from by decide +kernel]
      decide
    refine ⟨num a, num b, rfl, rfl, la, lb, .str (workT (num a) (num b)), .str (workT (num a) (num b)), rfl, .str _, .inr ⟨workT (num a) (num b), rfl, ?_, fun _ H2 r e2 hr2 => ?_, fun no => absurd (row_yes ck3) no⟩⟩
    · unfold workT
      rw [str_len, str_len, la, lb, show (" - - " : Str).length = 5 from by decide +kernel]
      decide
    refine ⟨.str (num b), rfl, .str (num b), .str (num b), rfl, .str _, .inr ⟨num b, rfl, by rw [lb]; decide, fun _ H3 r' e3 hr3 => ?_, fun no => absurd (row_yes ck2) no⟩⟩
    have hL3 := hL.stay (.of (e2.trans e3))
    refine ⟨.ref x, rfl, x, ws, rfl, hL3, fun t hT => ⟨by show 3 ≤ sizeLine; omega, fun L nL => ?_⟩⟩
    have i3 : (itemsT (workT (num a) (num b))).map vN = [a, -1, -1, b].map V.int := itemsV_of (itemsD_by r3 fun x hx => by simp at hx; omega)
    have i2 : (itemsT (num b)).map vN = [b].map V.int := itemsV_of (itemsD_by r2 fun x hx => by simp at hx; omega)
    have iD : tDs ws = [tD [a, b], tD [b]] := by
      have hD : (rowsT (lineT (num a) (num b))).dropLast.map itemsD = tDs ws := hD
      rw [rows] at hD
      rw [← hD]
      show [itemsD _, itemsD _] = _
      rw [itemsD_by r1 fun x hx => by simp at hx; omega, itemsD_by r2 fun x hx => by simp at hx; omega]
    rw [i3] at hr2
    rw [i2] at hr3
    rw [iD] at hT
    have eN := same_new (o := .lst [V.ref r, V.ref r', V.ref t]) nL
    have h1 := eN _ _ (e3 _ _ hr2)
    have h2 := eN _ _ hr3
    have h3 := hT.stay (.of eN)
    have h4 : (upd H3 L (.lst [V.ref r, V.ref r', V.ref t])) L = some (.lst [V.ref r, V.ref r', V.ref t]) := upd_same
    have sN := tot.trans (e1.trans (e2.trans (e3.trans eN)))
    generalize upd H3 L (.lst [V.ref r, V.ref r', V.ref t]) = HN at h1 h2 h3 h4 sN ⊢
    clear eN hT hr2 hr3 hL3 hL hD e1 e2 e3 nL tot
    refine ⟨.ref L, rfl, .int a, rfl, 1, rfl, 1, rfl, .int b, rfl, by show 4 ≤ sizeLine; omega, fun t1 n1 => ⟨.int b, rfl, by show 1 ≤ sizeLine; omega, fun t2 n2 => ⟨.int a, rfl, .int b, rfl, by show 2 ≤ sizeLine; omega, fun t3 n3 => ⟨.int b, rfl, by show 1 ≤ sizeLine; omega, fun t4 n4 => ⟨by show 2 ≤ sizeLine; omega, fun t5 n5 => ⟨by show 3 ≤ sizeLine; omega, fun L2 nL2 => ?_⟩⟩⟩⟩⟩⟩
    have f1 : ∀ {o}, Same (upd HN t1 o) (upd (upd (upd (upd (upd (upd HN t1 o) t2 (.tup [V.int b])) t3 (.tup [V.int a, V.int b])) t4 (.tup [V.int b])) t5 (.tup [V.ref t3, V.ref t4])) L2 (.lst [V.ref t1, V.ref t2, V.ref t5])) → True := fun _ => trivial
    clear f1
    have k6 := same_new (o := .lst [V.ref t1, V.ref t2, V.ref t5]) nL2
    have k5 := (same_new (o := .tup [V.ref t3, V.ref t4]) n5).trans k6
    have k4 := (same_new (o := .tup [V.int b]) n4).trans k5
    have k3 := (same_new (o := .tup [V.int a, V.int b]) n3).trans k4
    have k2 := (same_new (o := .tup [V.int b]) n2).trans k3
    have k1 := (same_new (o := .tup [V.int a, V.int (-1), V.int (-1), V.int b]) n1).trans k2
    have u1 := k2 _ _ (upd_same (H := HN) (a := t1) (o := .tup [V.int a, V.int (-1), V.int (-1), V.int b]))
    have u2 := k3 _ _ (upd_same (a := t2) (o := .tup [V.int b]))
    have u3 := k4 _ _ (upd_same (a := t3) (o := .tup [V.int a, V.int b]))
    have u4 := k5 _ _ (upd_same (a := t4) (o := .tup [V.int b]))
    have u5 := k6 _ _ (upd_same (a := t5) (o := .tup [V.ref t3, V.ref t4]))
    have g1 := k1 _ _ h1
    have g2 := k1 _ _ h2
    have g3 := h3.stay (.of k1)
    have g4 := k1 _ _ h4
    have g5 := upd_same (H := upd (upd (upd (upd (upd HN t1 (.tup [V.int a, V.int (-1), V.int (-1), V.int b])) t2 (.tup [V.int b])) t3 (.tup [V.int a, V.int b])) t4 (.tup [V.int b])) t5 (.tup [V.ref t3, V.ref t4])) (a := L2) (o := .lst [V.ref t1, V.ref t2, V.ref t5])
    have sO := sN.trans k1
    refine ⟨L, L2, .list [tD [a, -1, -1, b], tD [b], .tuple [tD [a, b], tD [b]]], rfl, .lst (.of g4) (.cons (Tp.ofInts (ns := [a, -1, -1, b]) (.of g1)).dp (.cons (Tp.ofInts (ns := [b]) (.of g2)).dp (.cons g3.dp .nil))),
      .lst (.of g5) (.cons (Tp.ofInts (ns := [a, -1, -1, b]) (.of u1)).dp (.cons (Tp.ofInts (ns := [b]) (.of u2)).dp (.cons (Tp.tu (.of u5) (.on (.ofInts (ns := [a, b]) (.of u3)) (.on (.ofInts (ns := [b]) (.of u4)) .no))).dp .nil))), ?_, q _ sO⟩
    have si : ∀ (ns : List Int), (∀ x ∈ ns, -1 ≤ x ∧ x ≤ 9) → Small (tD ns) 2 ns.length := fun ns hn => (Small.tuple (SmallAll.ints (n := 1) ns fun x hx => by have := hn x hx; omega))
    have m1 := si [a, -1, -1, b] fun x hx => by simp at hx; omega
    have m2 := si [b] fun x hx => by simp at hx; omega
    have m3 := si [a, b] fun x hx => by simp at hx; omega
    have m4 := Small.tuple (SmallAll.cons m3 (SmallAll.cons m2 (SmallAll.nil (b := 0))))
    have m5 := Small.list (SmallAll.cons (m1.mono (m := 3) (by decide) (Nat.le_refl _)) (SmallAll.cons (m2.mono (m := 3) (by decide) (Nat.le_refl _)) (SmallAll.cons m4 (SmallAll.nil (b := 0)))))
    exact m5.shows (by decide) (by show 4 + 1 + (1 + 1 + (2 + 1 + (1 + 1 + 0) + 1 + 0)) ≤ 900000; decide)
end
end Sg
set_option Elab.async false
set_option linter.all false
set_option maxRecDepth 100000
set_option maxHeartbeats 4000000
namespace Sg
open PySem PySem.Spec PyProof.Rows L2 StX
open TL (tl tl_append numL)
theorem ext_upd {H H' : Hp} {l : Addr} {u : HO} (e : LamX.ExtN H H') (h : ∀ o, H l = some o → ∃ ps, o = .tbl ps) : LamX.ExtN H (upd H' l u) := fun b o g n => by
  by_cases z : b = l
  · subst z
    obtain ⟨ps, rfl⟩ := h o g
    exact absurd rfl (n ps)
  · rw [upd_ne z]; exact e _ _ g n
theorem tabs_upd {T : List (Addr × Str)} {H : Hp} {l : Addr} {xs : List V} {o : HO} (h : H l = some (.lst xs)) (t : LamX.Tabs T H) : LamX.Tabs T (upd H l o) := fun x hx => by
  obtain ⟨ps, h1, h2, h3⟩ := t x hx
  refine ⟨ps, by rw [upd_ne (ne_of h1 h fun z => nomatch z)]; exact h1, h2, fun pos cv hc => ?_⟩
  obtain ⟨c, e1, e2⟩ := h3 pos cv hc
  exact ⟨c, e1, by rw [upd_ne (ne_of e2 h fun z => by unfold LamX.CodeO at z; exact nomatch z)]; exact e2⟩
theorem sq_cases {K : PySem.W.Frag} {H : Hp} {a p : Addr} {xs : List V} (h : SqL K H a xs) (np : H p = none) : (∀ H', SqL K H' a xs) ∨ a ≠ p := by
  rcases h with (h | ⟨o, h⟩) | h
  · exact .inr (ne_of_none h np)
  · exact .inr (ne_of_none h np)
  · exact .inl fun _ => .inr h
def lamQ (x : Str) : Str := (x ++ (".<locals>." : Str)) ++ ("<lambda>" : Str)
structure SaidOk (K : PySem.W.Frag) (C : Nat → Addr) (Gap D : Addr) (j : Nat) (wd : Str) : Prop where
  ko : KindOk K C D j
  w : kWords[j]? = some wd
  lt : j < 25
  ex : PySem.W.exmOne K (.ref D) (.ref Gap) = some true
theorem SaidOk.said {K : PySem.W.Frag} {C : Nat → Addr} {Gap D : Addr} {j : Nat} {wd : Str} (h : SaidOk K C Gap D j wd) {Q : VK} {H : Hp} (q : ∀ H', Same H H' → Q (.str ("! " ++ wd)) H') : SaidE K C Gap Q (.ref D) none H :=
  ⟨D, j, wd, rfl, rfl, h.ko, h.w, h.lt, h.ex, q⟩
def noneN : List Str := ["_law_a", "_law_b", "_law_one", "_law_other", "_law_works", "_law_text", "_law_laps", "_law_lines", "_law_plans"]
def noS : Str := ("! NoText" : Str)
theorem noS_sgn : Sgn noS := sgn_by (by decide +kernel)
theorem pt_mul {X : Cx} {e : Expr} {j pos pos2} (h : PE X e (tT fun a _ => a ++ ("\n" : Str))) : PT X (.BinOp e .Mult (.Constant (.int 4) j pos) pos2) 8 (fun a _ => repS (a ++ ("\n" : Str)) 4) := by
  have l1 : ∀ a : Str, a.length = 1 → (a ++ ("\n" : Str)).length = 2 := fun a h => by rw [str_len, h, show ("\n" : Str).length = 1 from by decide +kernel]
  refine ⟨PE.imp (pe_op op_mulS h pe_int) fun σ H Q ⟨a, b, h1, h2, la, lb, q⟩ => ⟨a, b, h1, h2, la, lb, _, 4, rfl, rfl, by decide, by rw [l1 a la]; exact Nat.le_refl _, by rw [l1 a la]; decide, q⟩, fun a b la _ => ?_⟩
  have e : ∀ x : Str, (repS x 4).length = x.length + x.length + x.length + x.length := fun x => by
    show (List.foldl (· ++ ·) #[] [x.cps, x.cps, x.cps, x.cps]).size = _
    simp only [List.foldl, Array.size_append]
    show 0 + _ + _ + _ + _ = x.cps.size + x.cps.size + x.cps.size + x.cps.size
    omega
  rw [e, l1 a la]
  decide
section
variable {P : Program} {w : World} {K : PySem.W.Frag} {mg : Str → Option Value} {base : Heap}
def spNone (K : PySem.W.Frag) (T : List (Addr × Str)) : Sp := fun vs H Q _ => ∃ a b : Int, vs = [.int a, .int b] ∧ (0 ≤ a ∧ a ≤ 9) ∧ (0 ≤ b ∧ b ≤ 9) ∧ LamX.Tabs T H ∧ ∀ H', LamX.ExtN H H' → LamX.Tabs T H' → Q (.bl true) H'
set_option maxHeartbeats 16000000 in
theorem ok_none {f fs f1 fw fl fn fp CL Cn Gap c P' : Addr} {fd fds fd1 fdw fdl fdn fdp : FuncData} {k : Nat} {C : Nat → Addr} {T : List (Addr × Str)} (F : Fun K "_law_none" "_law_none" s_l_none f fd) (hc : fd.code = .ref c) (TB : LamX.TabB base mg c P')
    (hmT0 : (P', lamQ "_law_none") ∈ T) (hu0 : ∀ p ∈ T, p.1 = P' → p.2 = lamQ "_law_none")
    (Fs : Fun K "_law_said" "_law_said" s_l_said fs fds) (kps : PySem.W.keepIn K (.ref fs) = true) (bs : Binds K fds ["_law_call"] []) (gs : mg "_law_said" = some (.ref fs))
    (G1 : FnE P w K mg base k f1 fd1 ["_law_e"] (spWord K C)) (kp1 : PySem.W.keepIn K (.ref f1) = true) (bb1 : Binds K fd1 ["_law_e"] []) (g1 : mg "_law_word" = some (.ref f1))
    (hme : mg "GapError" = some (.ref Gap)) (m2 : mg "repr" = none) (SN : SaidOk K C Gap Cn 21 "NoText")
    (Gw : FnOk P w K mg base (L2.CX P w) k fw fdw ["text"] (spReadT K CL Cn WorkD)) (kpw : PySem.W.keepIn K (.ref fw) = true) (bw : Binds K fdw ["text"] []) (gw : mg "read_work" = some (.ref fw))
    (Gl : FnOk P w K mg base (L2.CX P w) k fl fdl ["text"] (spReadT K CL Cn (LapD 3))) (kpl : PySem.W.keepIn K (.ref fl) = true) (bl : Binds K fdl ["text"] []) (gl : mg "read_lap" = some (.ref fl))
    (Gn : FnOk P w K mg base (L2.CX P w) k fn fdn ["text"] (spReadLine K CL Cn)) (kpn : PySem.W.keepIn K (.ref fn) = true) (bn : Binds K fdn ["text"] []) (gn : mg "read_line" = some (.ref fn))
    (Gp : FnOk P w K mg base (L2.CX P w) k fp fdp ["text"] (spReadPlan K CL Cn)) (kpp : PySem.W.keepIn K (.ref fp) = true) (bp : Binds K fdp ["text"] []) (gp : mg "read_plan" = some (.ref fp))
    (m1 : mg "str" = none) : FnG P w K mg base (k + 3) f fd ["_law_a", "_law_b"] (spNone K T) := by
  obtain ⟨ocs, ods, kVs, docs, pms, ans, cdvs, cts, osls, rfl, lks, hcds⟩ := Fs.ex
  refine fnG_mkC F hc sc_l_none (fun vs H Q h => ?_) (fun A outer s H vs Q hgd hr h => ?_)
  · obtain ⟨a, b, rfl, _⟩ := h; rfl
  · obtain ⟨a, b, rfl, ha, hb, hT, q⟩ := h
    let X0 : Cx := (cxOf CX0 P w K mg base ["_law_a", "_law_b", "_law_one", "_law_other", "_law_works", "_law_text", "_law_laps", "_law_lines", "_law_plans"] "_law_none" (defScope s_l_none) f (.ref c) A outer s H E0).nox
    have hu64 : X0.A.units + 64 < cLine := by
      have h := hr.un
      have e : X0.A.units = (A.deeper (envOfC "_law_none" (defScope s_l_none) s.heap.objs.size f (.ref c))).units := rfl
      omega
    refine ⟨_, (pss_cons (ps_par (i := 2) (j := 3) (by rfl) sc_l_none.nd rfl rfl (by decide) rfl rfl (pa_cons (pe_callTy call_str_int (by rfl) m1 (by decide +kernel) (pa_cons (pv 0) pa_nil)) (pa_cons (pe_callTy call_str_int (by rfl) m1 (by decide +kernel) (pa_cons (pv 1) pa_nil)) pa_nil)) (by rfl))
      (pss_cons (ps_set (i := 4) sc_l_none.nd rfl (.inl rfl) (pl_lst (pl_cons (pt_lit) (pl_cons (pt_lit) (pl_cons ((pt_cat (pt_cat pt_one pt_lit (by decide +kernel)) pt_other (by decide +kernel))) (pl_cons ((pt_cat pt_lit pt_one (by decide +kernel))) (pl_cons ((pt_cat pt_one pt_lit (by decide +kernel))) (pl_cons ((pt_cat pt_one pt_lit (by decide +kernel))) (pl_cons ((pt_cat pt_lit pt_one (by decide +kernel))) (pl_cons ((pt_cat pt_one pt_lit (by decide +kernel))) (pl_cons (pt_lit) (pl_cons ((pt_cat pt_lit pt_one (by decide +kernel))) pl_nil))))))))))))
      (pss_cons (ps_set (i := 4) sc_l_none.nd rfl (.inl rfl) (pl_cat (g := fun a b => (worksL a b).take 10) (i := 4) (pv 4) (pl_cons (pt_lit) (pl_cons (pt_lit) (pl_cons ((pt_cat (pt_cat pt_one pt_lit (by decide +kernel)) pt_other (by decide +kernel))) (pl_cons (pt_lit) (pl_cons (pt_lit) pl_nil)))))))
      (pss_cons (ps_if (pt_cmpR (op_neD hu64) (pe_lc (own := [("_law_text", 5)]) (g := gName 5) (tt := tYes) rfl sc_l_none.nd (pi_list (pv 4)) (blkOk_by (N := noneN) (sc := defScope s_l_none) (by decide +kernel)) (fun _ _ _ _ _ => pg_name (i := 5) sc_l_none.nd rfl (Or.inr rfl)) (fun _ _ _ _ _ => pts_nil)
          (fun _ _ _ _ _ => LamX.pe_lamcall (T := T) (TT := TSaid K C Gap) (by rfl) gs kps lks hcds bs sc_l_said rfl (.inl rfl) (said_gives (g := fs) (cdg := cdvs) (C := C) hgd (hr.mono (show k + 1 ≤ k + 2 by omega)) G1 kp1 bb1 g1 hme m2) TB rfl hmT0 hu0 hr (LamX.lamS_by (by rfl)) rfl (fun _ _ _ _ _ => rfl)
            (fun A2 outer2 s2 H2 E2 f2 c2 hr2 => pe_callS Gw (hr2.mono (by omega)) (by rfl) gw kpw bw (fun σ => passAt (takes_of rfl rfl rfl rfl) σ) (pa_cons (pv 5) pa_nil)))) (pe_op op_rep (pe_lst (pa_cons pe_str pa_nil)) pe_int) (nomark _)) (pss_one (ps_ret pe_bl)) pss_nil)
      (pss_cons (ps_set (i := 6) sc_l_none.nd rfl (.inl rfl) (pl_lst (pl_cons (pt_lit) (pl_cons (pt_lit) (pl_cons (pt_lit) (pl_cons (pt_lit) (pl_cons (pt_lit) (pl_cons (pt_lit) (pl_cons (pt_lit) (pl_cons (pt_lit) (pl_cons (pt_lit) (pl_cons (pt_lit) pl_nil))))))))))))
      (pss_cons (ps_if (pt_cmpR (op_neD hu64) (pe_lc (own := [("_law_text", 5)]) (g := gName 5) (tt := tYes) rfl sc_l_none.nd (pi_list (pv 6)) (blkOk_by (N := noneN) (sc := defScope s_l_none) (by decide +kernel)) (fun _ _ _ _ _ => pg_name (i := 5) sc_l_none.nd rfl (Or.inr rfl)) (fun _ _ _ _ _ => pts_nil)
          (fun _ _ _ _ _ => LamX.pe_lamcall (T := T) (TT := TSaid K C Gap) (by rfl) gs kps lks hcds bs sc_l_said rfl (.inl rfl) (said_gives (g := fs) (cdg := cdvs) (C := C) hgd (hr.mono (show k + 1 ≤ k + 2 by omega)) G1 kp1 bb1 g1 hme m2) TB rfl hmT0 hu0 hr (LamX.lamS_by (by rfl)) rfl (fun _ _ _ _ _ => rfl)
            (fun A2 outer2 s2 H2 E2 f2 c2 hr2 => pe_callS Gl (hr2.mono (by omega)) (by rfl) gl kpl bl (fun σ => passAt (takes_of rfl rfl rfl rfl) σ) (pa_cons (pv 5) pa_nil)))) (pe_op op_rep (pe_lst (pa_cons pe_str pa_nil)) pe_int) (nomark _)) (pss_one (ps_ret pe_bl)) pss_nil)
      (pss_cons (ps_set (i := 7) sc_l_none.nd rfl (.inl rfl) (pl_lst (pl_cons (pt_lit) (pl_cons (pt_one) (pl_cons ((pt_cat pt_one pt_lit (by decide +kernel))) (pl_cons (pt_lit) (pl_cons ((pt_cat (pt_cat pt_lit pt_one (by decide +kernel)) pt_lit (by decide +kernel))) (pl_cons ((pt_cat pt_one pt_lit (by decide +kernel))) (pl_cons (pt_mul ((pt_cat pt_one pt_lit (by decide +kernel))).pe) (pl_cons ((pt_cat (pt_cat pt_one pt_lit (by decide +kernel)) pt_other (by decide +kernel))) pl_nil))))))))))
      (pss_cons (ps_expr (pe_bm PySem.F.plainAttrs_list PySem.F.slot_list_append PySem.F.type_list_append mt_append (pv 7) (pa_cons ((pt_cat pt_one pt_lit (by decide +kernel))).pe pa_nil)))
      (pss_cons (ps_if (pt_cmpR (op_neD hu64) (pe_lc (own := [("_law_text", 5)]) (g := gName 5) (tt := tYes) rfl sc_l_none.nd (pi_list (pv 7)) (blkOk_by (N := noneN) (sc := defScope s_l_none) (by decide +kernel)) (fun _ _ _ _ _ => pg_name (i := 5) sc_l_none.nd rfl (Or.inr rfl)) (fun _ _ _ _ _ => pts_nil)
          (fun _ _ _ _ _ => LamX.pe_lamcall (T := T) (TT := TSaid K C Gap) (by rfl) gs kps lks hcds bs sc_l_said rfl (.inl rfl) (said_gives (g := fs) (cdg := cdvs) (C := C) hgd (hr.mono (show k + 1 ≤ k + 2 by omega)) G1 kp1 bb1 g1 hme m2) TB rfl hmT0 hu0 hr (LamX.lamS_by (by rfl)) rfl (fun _ _ _ _ _ => rfl)
            (fun A2 outer2 s2 H2 E2 f2 c2 hr2 => pe_callS Gn (hr2.mono (by omega)) (by rfl) gn kpn bn (fun σ => passAt (takes_of rfl rfl rfl rfl) σ) (pa_cons (pv 5) pa_nil)))) (pe_op op_rep (pe_lst (pa_cons pe_str pa_nil)) pe_int) (nomark _)) (pss_one (ps_ret pe_bl)) pss_nil)
      (pss_cons (ps_set (i := 8) sc_l_none.nd rfl (.inl rfl) (pl_lst (pl_cons (pt_lit) (pl_cons (pt_lit) (pl_cons (pt_lit) (pl_cons (pt_lit) (pl_cons (pt_lit) (pl_cons (pt_lit) (pl_cons (pt_lit) (pl_cons (pt_lit) (pl_cons (pt_lit) (pl_cons (pt_lit) (pl_cons (pt_lit) (pl_cons (pt_lit) (pl_cons (pt_lit) pl_nil)))))))))))))))
      (pss_cons (ps_set (i := 8) sc_l_none.nd rfl (.inl rfl) (pl_cat (g := fun _ _ => plansL.take 13) (i := 8) (pv 8) (pl_cons (pt_lit) (pl_cons (pt_lit) (pl_cons (pt_lit) (pl_cons (pt_lit) pl_nil))))))
      (pss_one (ps_ret (pe_cmpR (op_eqD hu64) (pe_lc (own := [("_law_text", 5)]) (g := gName 5) (tt := tYes) rfl sc_l_none.nd (pi_list (pv 8)) (blkOk_by (N := noneN) (sc := defScope s_l_none) (by decide +kernel)) (fun _ _ _ _ _ => pg_name (i := 5) sc_l_none.nd rfl (Or.inr rfl)) (fun _ _ _ _ _ => pts_nil)
          (fun _ _ _ _ _ => LamX.pe_lamcall (T := T) (TT := TSaid K C Gap) (by rfl) gs kps lks hcds bs sc_l_said rfl (.inl rfl) (said_gives (g := fs) (cdg := cdvs) (C := C) hgd (hr.mono (show k + 1 ≤ k + 2 by omega)) G1 kp1 bb1 g1 hme m2) TB rfl hmT0 hu0 hr (LamX.lamS_by (by rfl)) rfl (fun _ _ _ _ _ => rfl)
            (fun A2 outer2 s2 H2 E2 f2 c2 hr2 => pe_callS Gp (hr2.mono (by omega)) (by rfl) gp kpp bp (fun σ => passAt (takes_of rfl rfl rfl rfl) σ) (pa_cons (pv 5) pa_nil)))) (pe_op op_rep (pe_lst (pa_cons pe_str pa_nil)) pe_int) (nomark _))))))))))))))), ?_⟩
    have big : 1000 ≤ sizeLine := by rw [sizeLine_eq]; decide
    obtain ⟨_, _, _, _, _, _, _, _, _, _, _, sa, sb, la, lb⟩ := right_ok ha hb
    have noW : ∀ t ∈ worksL (num a) (num b), ¬ WorkD (itemsD t) ∧ t.length ≤ 20 := fun t ht => by
      have h := List.all_eq_true.mp (all2_at works_no ha hb) t ht
      rw [Bool.and_eq_true, Bool.not_eq_true'] at h
      exact ⟨row_no h.1, (okT_by h.2).1⟩
    have noL : ∀ t ∈ lapsL, ¬ LapD 3 (itemsD t) ∧ t.length ≤ 20 := fun t ht => by
      have h := List.all_eq_true.mp laps_no t ht
      rw [Bool.and_eq_true, Bool.not_eq_true'] at h
      exact ⟨lap_no h.1, (okT_by h.2).1⟩
    have noN : ∀ t ∈ linesL (num a) (num b), ¬ LineOk t ∧ t.length ≤ 20 := fun t ht => by
      have h := List.all_eq_true.mp (all2_at lines_no ha hb) t ht
      rw [Bool.and_eq_true, Bool.not_eq_true'] at h
      exact ⟨line_no h.1, (okT_by h.2).1⟩
    have noP : ∀ t ∈ plansL, isPlanB 3 (planD t) = false ∧ t.length ≤ 20 := fun t ht => by
      have h := List.all_eq_true.mp plans_no t ht
      rw [Bool.and_eq_true] at h
      exact ⟨plan_no h.1, (okT_by h.2).1⟩
    refine ⟨.int a, rfl, a, rfl, str_log ha, .int b, rfl, b, rfl, str_log hb, _, _, rfl, ?_⟩
    -- works
    refine ⟨num a, num b, rfl, rfl, la, lb, by show 10 ≤ 100; decide, fun Ha w1 s1a _ h1 => ?_⟩
    have h1 : Ha w1 = some (.lst (((worksL (num a) (num b)).take 10).map V.str)) := h1
    refine ⟨num a, num b, w1, rfl, rfl, la, lb, by show 10 ≤ 100; decide, by show 5 ≤ 100; decide, rfl, h1, fun H1 w3 s1b h2 => ?_⟩
    have hl1 : H1 w3 = some (.lst ((worksL (num a) (num b)).map V.str)) := h2
    have s1 := s1a.trans s1b
    have T0 := tabs_same s1 hT
    clear h1 h2 s1a s1b
    refine ⟨.ref w3, rfl, w3, rfl, ⟨_, .of hl1⟩, fun D nD => ?_⟩
    refine lc_list (xs := (worksL (num a) (num b)).map V.str) (fun i H' => LamX.ExtN H1 H' ∧ LamX.Tabs T H' ∧ H' D = some (.lst ((List.replicate i noS).map V.str))) ⟨ext_of (same_new nD), tabs_same (same_new nD) T0, upd_same⟩ (fun i H' _ h => .of (h.1 _ _ hl1 fun ps z => nomatch z)) (fun i x H' hx h => ?_) (fun H' h => ?_)
    · obtain ⟨xi, Ti, hDi⟩ := h
      rw [List.getElem?_map] at hx
      obtain ⟨t, ht, rfl⟩ := Option.map_eq_some_iff.mp hx
      have htm := List.mem_of_getElem? ht
      have hil : i < 20 := Nat.lt_of_lt_of_le (List.getElem?_eq_some_iff.mp ht).1 (by show 15 ≤ 20; decide)
      obtain ⟨no, hlen⟩ := noW t htm
      refine ⟨rfl, Ti, fun H5 x5 T5 => ⟨.str t, rfl, .str t, .str t, rfl, .str _, .inr ⟨t, rfl, Nat.le_trans hlen (by decide), (fun yes => absurd yes no), fun _ H6 s6 => SN.said fun H7 s7 => ?_⟩⟩⟩
      have s67 := s6.trans s7
      have hD7 := s67 _ _ (x5 _ _ hDi fun ps z => nomatch z)
      refine ⟨_, hD7, by rw [List.length_map, List.length_replicate]; exact small1000 (by omega), ext_upd ((xi.trans x5).trans (ext_of s67)) (fun o z => by rw [nD] at z; exact nomatch z), tabs_upd hD7 (tabs_same s67 T5), ?_⟩
      rw [upd_same, List.replicate_succ', List.map_append]
      rfl
    obtain ⟨x1, T1, hD1⟩ := h
    rw [show ((worksL (num a) (num b)).map V.str).length = 15 from rfl] at hD1
    refine ⟨by show 1 ≤ sizeLine; omega, fun l1 n1 => ⟨l1, 15, _, rfl, rfl, upd_same, by decide, by decide, by show 1 * 15 ≤ sizeLine; omega, fun l2 n2 => ?_⟩⟩
    have r1 := (same_new (o := .lst [V.str ("! NoText" : Str)]) n1).trans (same_new (o := .lst (List.replicate (15 : Int).toNat [V.str ("! NoText" : Str)]).flatten) n2)
    have hR1 : (upd (upd H' l1 (.lst [V.str ("! NoText" : Str)])) l2 (.lst (List.replicate (15 : Int).toNat [V.str ("! NoText" : Str)]).flatten)) l2 = some (.lst ((List.replicate 15 noS).map V.str)) := upd_same
    generalize upd (upd H' l1 (.lst [V.str ("! NoText" : Str)])) l2 (.lst (List.replicate (15 : Int).toNat [V.str ("! NoText" : Str)]).flatten) = HR1 at r1 hR1 ⊢
    have y1 := x1.trans (ext_of r1)
    have T1' := tabs_same r1 T1
    obtain ⟨q1, q2⟩ := shapedS (ts := List.replicate 15 noS) fun t ht => by rw [List.eq_of_mem_replicate ht]; exact noS_sgn
    refine ⟨_, _, .lst (.of (r1 _ _ hD1)) (dp_strs (List.replicate 15 noS)), .lst (.of hR1) (dp_strs (List.replicate 15 noS)), q1, q1, ?_⟩
    refine ⟨_, rfl, ?_⟩
    rw [q2]
    refine iteF ?_
    have z1 := (ext_of s1).trans y1
    -- laps
    refine ⟨num a, num b, rfl, rfl, la, lb, by show 10 ≤ 100; decide, fun H2 p1 s2 _ h2 => ?_⟩
    have hl2 : H2 p1 = some (.lst (lapsL.map V.str)) := h2
    have T2a := tabs_same s2 T1'
    refine ⟨.ref p1, rfl, p1, rfl, ⟨_, .of hl2⟩, fun D nD => ?_⟩
    refine lc_list (xs := (lapsL).map V.str) (fun i H' => LamX.ExtN H2 H' ∧ LamX.Tabs T H' ∧ H' D = some (.lst ((List.replicate i noS).map V.str))) ⟨ext_of (same_new nD), tabs_same (same_new nD) T2a, upd_same⟩ (fun i H' _ h => .of (h.1 _ _ hl2 fun ps z => nomatch z)) (fun i x H' hx h => ?_) (fun H' h => ?_)
    · obtain ⟨xi, Ti, hDi⟩ := h
      rw [List.getElem?_map] at hx
      obtain ⟨t, ht, rfl⟩ := Option.map_eq_some_iff.mp hx
      have htm := List.mem_of_getElem? ht
      have hil : i < 20 := Nat.lt_of_lt_of_le (List.getElem?_eq_some_iff.mp ht).1 (by show 10 ≤ 20; decide)
      obtain ⟨no, hlen⟩ := noL t htm
      refine ⟨rfl, Ti, fun H5 x5 T5 => ⟨.str t, rfl, .str t, .str t, rfl, .str _, .inr ⟨t, rfl, Nat.le_trans hlen (by decide), (fun yes => absurd yes no), fun _ H6 s6 => SN.said fun H7 s7 => ?_⟩⟩⟩
      have s67 := s6.trans s7
      have hD7 := s67 _ _ (x5 _ _ hDi fun ps z => nomatch z)
      refine ⟨_, hD7, by rw [List.length_map, List.length_replicate]; exact small1000 (by omega), ext_upd ((xi.trans x5).trans (ext_of s67)) (fun o z => by rw [nD] at z; exact nomatch z), tabs_upd hD7 (tabs_same s67 T5), ?_⟩
      rw [upd_same, List.replicate_succ', List.map_append]
      rfl
    obtain ⟨x2, T2, hD2⟩ := h
    rw [show ((lapsL).map V.str).length = 10 from rfl] at hD2
    refine ⟨by show 1 ≤ sizeLine; omega, fun l1 n1 => ⟨l1, 10, _, rfl, rfl, upd_same, by decide, by decide, by show 1 * 10 ≤ sizeLine; omega, fun l2 n2 => ?_⟩⟩
    have r2 := (same_new (o := .lst [V.str ("! NoText" : Str)]) n1).trans (same_new (o := .lst (List.replicate (10 : Int).toNat [V.str ("! NoText" : Str)]).flatten) n2)
    have hR2 : (upd (upd H' l1 (.lst [V.str ("! NoText" : Str)])) l2 (.lst (List.replicate (10 : Int).toNat [V.str ("! NoText" : Str)]).flatten)) l2 = some (.lst ((List.replicate 10 noS).map V.str)) := upd_same
    generalize upd (upd H' l1 (.lst [V.str ("! NoText" : Str)])) l2 (.lst (List.replicate (10 : Int).toNat [V.str ("! NoText" : Str)]).flatten) = HR2 at r2 hR2 ⊢
    have y2 := x2.trans (ext_of r2)
    have T2' := tabs_same r2 T2
    obtain ⟨q1, q2⟩ := shapedS (ts := List.replicate 10 noS) fun t ht => by rw [List.eq_of_mem_replicate ht]; exact noS_sgn
    refine ⟨_, _, .lst (.of (r2 _ _ hD2)) (dp_strs (List.replicate 10 noS)), .lst (.of hR2) (dp_strs (List.replicate 10 noS)), q1, q1, ?_⟩
    refine ⟨_, rfl, ?_⟩
    rw [q2]
    refine iteF ?_
    have z2 := (z1.trans (ext_of s2)).trans y2
    -- lines
    refine ⟨num a, num b, rfl, rfl, la, lb, by show 8 ≤ 100; decide, fun Hq p2 s3 n3 h3 => ?_⟩
    have h3 : Hq p2 = some (.lst (((linesL (num a) (num b)).take 8).map V.str)) := h3
    refine ⟨.ref p2, rfl, .inl ⟨rfl, _, .of h3⟩, num a, num b, rfl, rfl, la, lb, p2, _, _, rfl, rfl, h3, by show 8 < sizeLine; omega, ?_⟩
    have x3a : LamX.ExtN HR2 (upd Hq p2 (.lst (((linesL (num a) (num b)).take 8).map V.str ++ [V.str (num a ++ (" -
" : Str))]))) := ext_upd (ext_of s3) fun o z => by rw [n3] at z; exact nomatch z
    have hl3 : (upd Hq p2 (.lst (((linesL (num a) (num b)).take 8).map V.str ++ [V.str (num a ++ (" -
" : Str))]))) p2 = some (.lst ((linesL (num a) (num b)).map V.str)) := upd_same
    have T3a : LamX.Tabs T (upd Hq p2 (.lst (((linesL (num a) (num b)).take 8).map V.str ++ [V.str (num a ++ (" -
" : Str))]))) := tabs_upd h3 (tabs_same s3 T2')
    generalize upd Hq p2 (.lst (((linesL (num a) (num b)).take 8).map V.str ++ [V.str (num a ++ (" -
" : Str))])) = H3 at x3a hl3 T3a ⊢
    refine ⟨.ref p2, rfl, p2, rfl, ⟨_, .of hl3⟩, fun D nD => ?_⟩
    refine lc_list (xs := (linesL (num a) (num b)).map V.str) (fun i H' => LamX.ExtN H3 H' ∧ LamX.Tabs T H' ∧ H' D = some (.lst ((List.replicate i noS).map V.str))) ⟨ext_of (same_new nD), tabs_same (same_new nD) T3a, upd_same⟩ (fun i H' _ h => .of (h.1 _ _ hl3 fun ps z => nomatch z)) (fun i x H' hx h => ?_) (fun H' h => ?_)
    · obtain ⟨xi, Ti, hDi⟩ := h
      rw [List.getElem?_map] at hx
      obtain ⟨t, ht, rfl⟩ := Option.map_eq_some_iff.mp hx
      have htm := List.mem_of_getElem? ht
      have hil : i < 20 := Nat.lt_of_lt_of_le (List.getElem?_eq_some_iff.mp ht).1 (by show 9 ≤ 20; decide)
      obtain ⟨no, hlen⟩ := noN t htm
      refine ⟨rfl, Ti, fun H5 x5 T5 => ⟨.str t, rfl, .str t, .str t, rfl, .str _, .inr ⟨t, rfl, Nat.le_trans hlen (by decide), (fun yes => absurd yes no), fun _ H6 s6 => SN.said fun H7 s7 => ?_⟩⟩⟩
      have s67 := s6.trans s7
      have hD7 := s67 _ _ (x5 _ _ hDi fun ps z => nomatch z)
      refine ⟨_, hD7, by rw [List.length_map, List.length_replicate]; exact small1000 (by omega), ext_upd ((xi.trans x5).trans (ext_of s67)) (fun o z => by rw [nD] at z; exact nomatch z), tabs_upd hD7 (tabs_same s67 T5), ?_⟩
      rw [upd_same, List.replicate_succ', List.map_append]
      rfl
    obtain ⟨x3, T3, hD3⟩ := h
    rw [show ((linesL (num a) (num b)).map V.str).length = 9 from rfl] at hD3
    refine ⟨by show 1 ≤ sizeLine; omega, fun l1 n1 => ⟨l1, 9, _, rfl, rfl, upd_same, by decide, by decide, by show 1 * 9 ≤ sizeLine; omega, fun l2 n2 => ?_⟩⟩
    have r3 := (same_new (o := .lst [V.str ("! NoText" : Str)]) n1).trans (same_new (o := .lst (List.replicate (9 : Int).toNat [V.str ("! NoText" : Str)]).flatten) n2)
    have hR3 : (upd (upd H' l1 (.lst [V.str ("! NoText" : Str)])) l2 (.lst (List.replicate (9 : Int).toNat [V.str ("! NoText" : Str)]).flatten)) l2 = some (.lst ((List.replicate 9 noS).map V.str)) := upd_same
    generalize upd (upd H' l1 (.lst [V.str ("! NoText" : Str)])) l2 (.lst (List.replicate (9 : Int).toNat [V.str ("! NoText" : Str)]).flatten) = HR3 at r3 hR3 ⊢
    have y3 := x3.trans (ext_of r3)
    have T3' := tabs_same r3 T3
    obtain ⟨q1, q2⟩ := shapedS (ts := List.replicate 9 noS) fun t ht => by rw [List.eq_of_mem_replicate ht]; exact noS_sgn
    refine ⟨_, _, .lst (.of (r3 _ _ hD3)) (dp_strs (List.replicate 9 noS)), .lst (.of hR3) (dp_strs (List.replicate 9 noS)), q1, q1, ?_⟩
    refine ⟨_, rfl, ?_⟩
    rw [q2]
    refine iteF ?_
    have z3 := (z2.trans x3a).trans y3
    -- plans
    refine ⟨num a, num b, rfl, rfl, la, lb, by show 13 ≤ 100; decide, fun Hr p3 s4a _ h4 => ?_⟩
    have h4 : Hr p3 = some (.lst ((plansL.take 13).map V.str)) := h4
    refine ⟨num a, num b, p3, rfl, rfl, la, lb, by show 13 ≤ 100; decide, by show 4 ≤ 100; decide, rfl, h4, fun H4 p5 s4b h5 => ?_⟩
    have hl4 : H4 p5 = some (.lst (plansL.map V.str)) := h5
    have s4 := s4a.trans s4b
    have T4a := tabs_same s4 T3'
    refine ⟨.ref p5, rfl, p5, rfl, ⟨_, .of hl4⟩, fun D nD => ?_⟩
    refine lc_list (xs := (plansL).map V.str) (fun i H' => LamX.ExtN H4 H' ∧ LamX.Tabs T H' ∧ H' D = some (.lst ((List.replicate i noS).map V.str))) ⟨ext_of (same_new nD), tabs_same (same_new nD) T4a, upd_same⟩ (fun i H' _ h => .of (h.1 _ _ hl4 fun ps z => nomatch z)) (fun i x H' hx h => ?_) (fun H' h => ?_)
    · obtain ⟨xi, Ti, hDi⟩ := h
      rw [List.getElem?_map] at hx
      obtain ⟨t, ht, rfl⟩ := Option.map_eq_some_iff.mp hx
      have htm := List.mem_of_getElem? ht
      have hil : i < 20 := Nat.lt_of_lt_of_le (List.getElem?_eq_some_iff.mp ht).1 (by show 17 ≤ 20; decide)
      obtain ⟨no, hlen⟩ := noP t htm
      refine ⟨rfl, Ti, fun H5 x5 T5 => ⟨.str t, rfl, .str t, .str t, rfl, .str _, .inr ⟨t, rfl, Nat.le_trans hlen (by decide), (fun yes => by rw [no] at yes; exact nomatch yes), fun _ H6 s6 => SN.said fun H7 s7 => ?_⟩⟩⟩
      have s67 := s6.trans s7
      have hD7 := s67 _ _ (x5 _ _ hDi fun ps z => nomatch z)
      refine ⟨_, hD7, by rw [List.length_map, List.length_replicate]; exact small1000 (by omega), ext_upd ((xi.trans x5).trans (ext_of s67)) (fun o z => by rw [nD] at z; exact nomatch z), tabs_upd hD7 (tabs_same s67 T5), ?_⟩
      rw [upd_same, List.replicate_succ', List.map_append]
      rfl
    obtain ⟨x4, T4, hD4⟩ := h
    rw [show ((plansL).map V.str).length = 17 from rfl] at hD4
    refine ⟨by show 1 ≤ sizeLine; omega, fun l1 n1 => ⟨l1, 17, _, rfl, rfl, upd_same, by decide, by decide, by show 1 * 17 ≤ sizeLine; omega, fun l2 n2 => ?_⟩⟩
    have r4 := (same_new (o := .lst [V.str ("! NoText" : Str)]) n1).trans (same_new (o := .lst (List.replicate (17 : Int).toNat [V.str ("! NoText" : Str)]).flatten) n2)
    have hR4 : (upd (upd H' l1 (.lst [V.str ("! NoText" : Str)])) l2 (.lst (List.replicate (17 : Int).toNat [V.str ("! NoText" : Str)]).flatten)) l2 = some (.lst ((List.replicate 17 noS).map V.str)) := upd_same
    generalize upd (upd H' l1 (.lst [V.str ("! NoText" : Str)])) l2 (.lst (List.replicate (17 : Int).toNat [V.str ("! NoText" : Str)]).flatten) = HR4 at r4 hR4 ⊢
    have y4 := x4.trans (ext_of r4)
    have T4' := tabs_same r4 T4
    obtain ⟨q1, q2⟩ := shapedS (ts := List.replicate 17 noS) fun t ht => by rw [List.eq_of_mem_replicate ht]; exact noS_sgn
    refine ⟨_, _, .lst (.of (r4 _ _ hD4)) (dp_strs (List.replicate 17 noS)), .lst (.of hR4) (dp_strs (List.replicate 17 noS)), q1, q1, ?_⟩
    rw [q2]
    exact q _ ((z3.trans (ext_of s4)).trans y4) T4'
end
end Sg
set_option Elab.async false
set_option linter.all false
set_option maxRecDepth 100000
set_option maxHeartbeats 4000000
namespace Sg
open PySem PySem.Spec PyProof.Rows L2 StX
open TL (tl tl_append numL)
def rightD : PyData := .list [tD [-1, 2, 0, -1], tD [-1], tD [2], .tuple [], .tuple [tD [0, 2]], .tuple [tD [3, 0], tD [11, 1]]]
mutual
def tB : PyData → Bool
  | .int _ => true
  | .tuple ds => tBs ds
  | _ => false
def tBs : List PyData → Bool
  | [] => true
  | d :: ds => tB d && tBs ds
end
mutual
theorem Dp.tp {K : PySem.W.Frag} {H : Hp} : ∀ {v : V} {d : PyData}, Dp K H v d → tB d = true → Tp K H v d
  | _, _, .int i, _ => .int i
  | _, _, .tup h r, e => .tu h (DpAll.tp r (by unfold tB at e; exact e))
  | _, _, .lst h r, e => by unfold tB at e; exact nomatch e
  | _, _, .non, e => by unfold tB at e; exact nomatch e
  | _, _, .bl _, e => by unfold tB at e; exact nomatch e
  | _, _, .str _, e => by unfold tB at e; exact nomatch e
theorem DpAll.tp {K : PySem.W.Frag} {H : Hp} : ∀ {v : List V} {d : List PyData}, DpAll K H v d → tBs d = true → TpAll K H v d
  | _, _, .nil, _ => .no
  | _, _, .cons h r, e => by
    unfold tBs at e
    obtain ⟨e1, e2⟩ := Bool.and_eq_true_iff.mp e
    exact .on (Dp.tp h e1) (DpAll.tp r e2)
end
/-- a lap's text, told by its words -/
theorem lap_good {t : Str} {ns : List Int} (h : wordsT t = ns.map Wr.partS) (h1 : 1 ≤ ns.length) (h2 : ns.length ≤ 900) (h3 : ∀ x ∈ ns, -1 ≤ x ∧ x < 3) : LapD 3 (itemsD t) ∧ (itemsT t).map vN = ns.map V.int :=
  ⟨⟨ns, itemsD_by h fun x hx => (h3 x hx).1, h1, h2, h3⟩, itemsV_of (itemsD_by h fun x hx => (h3 x hx).1)⟩
theorem laps_yes : wordsT ("- 2 0 -" : Str) = [-1, 2, 0, -1].map Wr.partS ∧ wordsT ("-" : Str) = [-1].map Wr.partS ∧ wordsT ("2" : Str) = [2].map Wr.partS := by decide +kernel
theorem plan1 : planD ("none" : Str) = .tuple [] := (planD_C (by decide +kernel)).trans (by kernel_rfl)
theorem plan2 : planD ("0:2" : Str) = .tuple [tD [0, 2]] := (planD_C (by decide +kernel)).trans (by kernel_rfl)
theorem plan3 : planD ("3:0 11:1" : Str) = .tuple [tD [3, 0], tD [11, 1]] := (planD_C (by decide +kernel)).trans (by kernel_rfl)
theorem rightD_shows : Shows rightD := by
  have si : ∀ (ns : List Int), ns.length ≤ 4 → (∀ x ∈ ns, -1 ≤ x ∧ x ≤ 20) → Small (tD ns) 4 4 := fun ns h1 hn => (Small.tuple (SmallAll.ints (n := 3) ns fun x hx => by have := hn x hx; omega)).mono (Nat.le_refl _) h1
  have p1 := (Small.tuple (SmallAll.nil (n := 3) (b := 4)))
  have p2 := (Small.tuple (SmallAll.cons (n := 4) (si [0, 2] (by decide) (by decide)) (SmallAll.nil (b := 0))))
  have p3 := (Small.tuple (SmallAll.cons (n := 4) (si [3, 0] (by decide) (by decide)) (SmallAll.cons (si [11, 1] (by decide) (by decide)) (SmallAll.nil (b := 0)))))
  have up : ∀ {d : PyData} {b : Nat}, Small d 4 b → Small d 5 b := fun h => h.mono (by decide) (Nat.le_refl _)
  exact (Small.list (SmallAll.cons (up (si [-1, 2, 0, -1] (by decide) (by decide))) (SmallAll.cons (up (si [-1] (by decide) (by decide))) (SmallAll.cons (up (si [2] (by decide) (by decide))) (SmallAll.cons (up p1) (SmallAll.cons p2 (SmallAll.cons p3 (SmallAll.nil (b := 0)))))))) ).shows (by decide) (by decide)
section
variable {P : Program} {w : World} {K : PySem.W.Frag} {mg : Str → Option Value} {base : Heap}
/-! ### _law_same -/
theorem ok_l_same {f : Addr} {fd : FuncData} {k : Nat} (F : Fun K "_law_same" "_law_same" s_l_same f fd) (m1 : mg "repr" = none) :
    FnG P w K mg base (k + 1) f fd ["_law_actual", "_law_due"] (spSame K) := by
  refine fnG_mk F sc_l_same (fun vs H Q h => ?_) (fun cdv A outer s H vs Q hg hr h => ?_)
  · obtain ⟨a, b, d, rfl, _⟩ := h; rfl
  · obtain ⟨a, b, d, rfl, h1, h2, hd, q⟩ := h
    refine ⟨_, pss_one (ps_ret (pe_cmpR op_eq (pe_callB (call_reprD hg hr) (by rfl) m1 (by decide +kernel) (pa_cons (pv 0) pa_nil))
      (pe_callB (call_reprD hg hr) (by rfl) m1 (by decide +kernel) (pa_cons (pv 1) pa_nil)) (nomark _))), ?_⟩
    refine ⟨.ref a, rfl, a, d, rfl, h1, hd, .ref b, rfl, b, d, rfl, h2, hd, rfl, ?_⟩
    rw [decide_eq_true rfl]
    exact q
def spLaw (K : PySem.W.Frag) (T : List (Addr × Str)) : Sp := fun vs H Q _ => ∃ (a : Addr) (ns : List Int), vs = [.ref a] ∧ SqL K H a (ns.map V.int) ∧ ns.length ≤ 63 ∧ LamX.Tabs T H ∧ ∀ H', Q (.bl true) H'
set_option maxHeartbeats 16000000 in
theorem ok_law {f CL Cn h1 h2 h3 h4 h5 h6 h7 h8 : Addr} {fd e1 e2 e3 e4 e5 e6 e7 e8 : FuncData} {k : Nat} {T : List (Addr × Str)} (F : Fun K "law" "law" s_law f fd)
    (D1 : FnOk P w K mg base CX0 k h1 e1 ["_law_script", "_law_k"] (spCell K)) (k1 : PySem.W.keepIn K (.ref h1) = true) (b1 : Binds K e1 ["_law_script", "_law_k"] []) (v1 : mg "_law_cell" = some (.ref h1))
    (D2 : FnOk P w K mg base CX0 k h2 e2 ["_law_cell_here"] spPen) (k2 : PySem.W.keepIn K (.ref h2) = true) (b2 : Binds K e2 ["_law_cell_here"] []) (v2 : mg "_law_pen" = some (.ref h2))
    (D3 : FnOk P w K mg base CX0 k h3 e3 ["_law_pen_here", "_law_values"] (spMixed K)) (k3 : PySem.W.keepIn K (.ref h3) = true) (b3 : Binds K e3 ["_law_pen_here", "_law_values"] []) (v3 : mg "_law_mixed" = some (.ref h3))
    (D4 : FnG P w K mg base k h4 e4 ["_law_a", "_law_b"] (spRight K)) (k4 : PySem.W.keepIn K (.ref h4) = true) (b4 : Binds K e4 ["_law_a", "_law_b"] []) (v4 : mg "_law_right" = some (.ref h4))
    (D5 : FnG P w K mg base k h5 e5 ["_law_a", "_law_b"] (spNone K T)) (k5 : PySem.W.keepIn K (.ref h5) = true) (b5 : Binds K e5 ["_law_a", "_law_b"] []) (v5 : mg "_law_none" = some (.ref h5))
    (D6 : FnOk P w K mg base CX0 k h6 e6 ["text"] (sp0 (spReadT K CL Cn (LapD 3)))) (k6 : PySem.W.keepIn K (.ref h6) = true) (b6 : Binds K e6 ["text"] []) (v6 : mg "read_lap" = some (.ref h6))
    (D7 : FnOk P w K mg base CX0 k h7 e7 ["text"] (sp0 (spReadPlan K CL Cn))) (k7 : PySem.W.keepIn K (.ref h7) = true) (b7 : Binds K e7 ["text"] []) (v7 : mg "read_plan" = some (.ref h7))
    (D8 : FnG P w K mg base k h8 e8 ["_law_actual", "_law_due"] (spSame K)) (k8 : PySem.W.keepIn K (.ref h8) = true) (b8 : Binds K e8 ["_law_actual", "_law_due"] []) (v8 : mg "_law_same" = some (.ref h8))
    (m2 : mg "range" = none) (m3 : mg "len" = none) (m4 : mg "max" = none) (m5 : mg "min" = none) : FnG P w K mg base (k + 1) f fd ["_law_script"] (spLaw K T) := by
  refine fnG_mk F sc_law (fun vs H Q h => ?_) (fun cdv A outer s H vs Q hgd hr h => ?_)
  · obtain ⟨a, ns, rfl, _⟩ := h; rfl
  · obtain ⟨a, ns, rfl, hS, hlen, hT, q⟩ := h
    have big : 1000 ≤ sizeLine := by rw [sizeLine_eq]; decide
    let X0 : Cx := (cxOf CX0 P w K mg base ["_law_script", "_law_k", "_law_pen_here", "_law_a", "_law_b", "_law_told"] "law" (defScope s_law) f cdv A outer s H E0).nox
    refine ⟨_, (pss_cons (ps_for PassesOwn.never rfl (pi_range1 (by rfl) m2 (pa_cons (pe_callB (call_max2 rfl) (by rfl) m4 (by decide +kernel) (pa_cons pe_int (pa_cons (pe_callB (call_min2 rfl) (by rfl) m5 (by decide +kernel) (pa_cons (pe_callB call_len_seq (by rfl) m3 PySem.boot_len (pa_cons (pv 0) pa_nil)) (pa_cons pe_int pa_nil))) pa_nil))) pa_nil)) (pg_name (i := 1) sc_law.nd rfl (.inl rfl))
        (pss_cons (ps_set (i := 2) sc_law.nd rfl (.inl rfl) (pe_call D2 (hr.mono (by omega)) (by rfl) v2 k2 b2 .nil pass0 (pa_cons (pe_call D1 (hr.mono (by omega)) (by rfl) v1 k1 b1 .nil pass0 (pa_cons (pv 0) (pa_cons (pv 1) pa_nil))) pa_nil)))
      (pss_cons (ps_asg (pe_slice sl_list (pe_call D3 (hr.mono (by omega)) (by rfl) v3 k3 b3 .nil pass0 (pa_cons (pv 2) (pa_cons (pe_lst (pa_cons pe_int (pa_cons pe_int (pa_cons pe_int (pa_cons pe_int (pa_cons pe_int (pa_cons pe_int (pa_cons pe_int (pa_cons pe_int (pa_cons pe_int (pa_cons pe_int pa_nil))))))))))) pa_nil))) po_none (po_some pe_int)) (pg_lst rfl (pgs_cons (pg_name (i := 3) sc_law.nd rfl (.inl rfl)) (pgs_cons (pg_name (i := 4) sc_law.nd rfl (.inl rfl)) pgs_nil))))
      (pss_cons (ps_if (PW.pt (pw_or (pt_not (pt_val (pe_callG D4 hgd (hr.mono (by omega)) (by rfl) v4 k4 b4 (pa_cons (pv 3) (pa_cons (pv 4) pa_nil))))) (pw_or1 (pt_not (pt_val (pe_callG D5 hgd (hr.mono (by omega)) (by rfl) v5 k5 b5 (pa_cons (pv 3) (pa_cons (pv 4) pa_nil)))))))) (pss_one (ps_ret pe_bl)) pss_nil)
      (pss_cons (ps_set (i := 5) sc_law.nd rfl (.inl rfl) (pe_lst (pa_cons (pe_call D6 (hr.mono (by omega)) (by rfl) v6 k6 b6 .nil pass0 (pa_cons pe_str pa_nil)) (pa_cons (pe_call D6 (hr.mono (by omega)) (by rfl) v6 k6 b6 .nil pass0 (pa_cons pe_str pa_nil)) (pa_cons (pe_call D6 (hr.mono (by omega)) (by rfl) v6 k6 b6 .nil pass0 (pa_cons pe_str pa_nil)) (pa_cons (pe_call D7 (hr.mono (by omega)) (by rfl) v7 k7 b7 .nil pass0 (pa_cons pe_str pa_nil)) (pa_cons (pe_call D7 (hr.mono (by omega)) (by rfl) v7 k7 b7 .nil pass0 (pa_cons pe_str pa_nil)) pa_nil)))))))
      (pss_cons (ps_expr (pe_bm PySem.F.plainAttrs_list PySem.F.slot_list_append PySem.F.type_list_append mt_append (pv 5) (pa_cons (pe_call D7 (hr.mono (by omega)) (by rfl) v7 k7 b7 .nil pass0 (pa_cons pe_str pa_nil)) pa_nil)))
      (pss_one (ps_if (pt_not (pt_val (pe_callG D8 hgd (hr.mono (by omega)) (by rfl) v8 k8 b8 (pa_cons (pv 5) (pa_cons (constE_ok (X := X0) 6 _ rightD (by with_unfolding_all rfl)) pa_nil))))) (pss_one (ps_ret pe_bl)) pss_nil))))))))
      (pss_one (ps_ret pe_bl))), ?_⟩
    refine ⟨.ref a, rfl, a, _, rfl, .inl hS, _, 4, rfl, 1, _, rfl, ?_⟩
    obtain ⟨N, hN, hN0, hN4⟩ : ∃ N : Int, (if (if (4 : Int) < ((ns.map V.int).length : Nat) then (4 : Int) else ((ns.map V.int).length : Nat)) > 1 then (if (4 : Int) < ((ns.map V.int).length : Nat) then (4 : Int) else ((ns.map V.int).length : Nat)) else 1) = N ∧ 0 ≤ N ∧ N ≤ 4 := by
      refine ⟨_, rfl, ?_, ?_⟩
      · split <;> split <;> omega
      · split <;> split <;> omega
    rw [hN]
    refine ⟨N, rfl, by omega, by omega, ?_⟩
    refine for_range (lo := 0) (n := N.toNat) (fun i σ H' => ∃ v1 v2 v3 v4 v5, σ = [some (.ref a), v1, v2, v3, v4, v5] ∧ SqL K H' a (ns.map V.int) ∧ LamX.Tabs T H')
      ⟨_, _, _, _, _, rfl, hS, hT⟩ ?_ ?_
    rotate_left
    · rintro σ H6 _
      exact q H6
    rintro i σ H6 hi ⟨v1', v2', v3', v4', v5', rfl, hS6, T6⟩
    refine ⟨.ref a, rfl, .int (0 + i), rfl, a, ns, i, by rw [Int.zero_add]; rfl, hS6, fun cell => ⟨cell, rfl, fun H7 p np s7 p7 => ?_⟩⟩
    have keepS : ∀ {H1 H2 : Hp}, But p H1 H2 → SqL K H1 a (ns.map V.int) → SqL K H2 a (ns.map V.int) := by
      intro H1 H2 e h
      rcases sq_cases hS6 np with hK | nap
      · exact hK _
      · rcases h with (h | ⟨o, h⟩) | h
        · exact .inl (.inl (e _ _ nap h))
        · exact .inl (.inr ⟨o, e _ _ nap h⟩)
        · exact .inr h
    refine ⟨.ref p, rfl, by show 10 ≤ sizeLine; omega, fun L nL => ?_⟩
    refine ⟨p, L, [0, 1, 2, 3, 4, 5, 6, 7, 8, 9], rfl, p7.new nL, (p7.ne nL).symm, upd_same, by decide, fun H8 M ms p8 b8 _ hM lenM memM => ?_⟩
    have S8 := keepS b8 ((same_new nL).seq (s7.seq hS6))
    have T8 := tabs_but (p7.new nL) b8 (tabs_same (same_new nL) (tabs_same s7 T6))
    have lenM : ms.length = 10 := lenM
    obtain ⟨x, y, rs, rfl⟩ : ∃ x y rs, ms = x :: y :: rs := by
      match ms, lenM with
      | x :: y :: rs, _ => exact ⟨x, y, rs, rfl⟩
    have dig : ∀ z ∈ x :: y :: rs, 0 ≤ z ∧ z ≤ 9 := fun z hz => by
      have := memM z hz
      simp at this
      omega
    have hx := dig x List.mem_cons_self
    have hy := dig y (List.mem_cons_of_mem _ List.mem_cons_self)
    refine ⟨2, rfl, M, _, rfl, .of hM, fun N2 nN2 => ⟨N2, _, rfl, .of upd_same, ?_, ?_⟩⟩
    · rw [show (2 : Int) = ((2 : Nat) : Int) from rfl, cut_to]; rfl
    rw [show cutV ((x :: y :: rs).map V.int) none (some 2) = [V.int x, V.int y] from by rw [show (2 : Int) = ((2 : Nat) : Int) from rfl, cut_to]; rfl]
    refine ⟨_, _, rfl, _, _, rfl, rfl, ?_⟩
    have s9 := same_new (o := .lst [V.int x, V.int y]) nN2
    have S9 := s9.seq S8
    have T9 := tabs_same s9 T8
    generalize upd H8 N2 (.lst [V.int x, V.int y]) = H9 at s9 S9 T9 ⊢
    refine ⟨.int x, rfl, .int y, rfl, x, y, rfl, hx, hy, fun HA sA => ⟨true, rfl, iteF ?_⟩⟩
    refine ⟨.int x, rfl, .int y, rfl, x, y, rfl, hx, hy, tabs_same sA T9, fun HB xB TB => ⟨true, rfl, iteF ?_⟩⟩
    have SB := ext_lst xB (sA.seq S9)
    -- what is read
    obtain ⟨w1, w2, w3⟩ := laps_yes
    obtain ⟨g1, i1⟩ := lap_good w1 (by decide) (by decide) (by decide)
    obtain ⟨g2, i2⟩ := lap_good w2 (by decide) (by decide) (by decide)
    obtain ⟨g3, i3⟩ := lap_good w3 (by decide) (by decide) (by decide)
    refine ⟨.str _, .str _, rfl, .str _, .inr ⟨_, rfl, by decide +kernel, fun _ H1 r1 e1 hr1 => ?_, fun no => absurd g1 no⟩⟩
    refine ⟨.str _, .str _, rfl, .str _, .inr ⟨_, rfl, by decide +kernel, fun _ H2 r2 e2 hr2 => ?_, fun no => absurd g2 no⟩⟩
    refine ⟨.str _, .str _, rfl, .str _, .inr ⟨_, rfl, by decide +kernel, fun _ H3 r3 e3 hr3 => ?_, fun no => absurd g3 no⟩⟩
    have pe1 : isPlanB 3 (planD ("none" : Str)) = true := by rw [plan1]; decide +kernel
    have pe2 : isPlanB 3 (planD ("0:2" : Str)) = true := by rw [plan2]; decide +kernel
    have pe3 : isPlanB 3 (planD ("3:0 11:1" : Str)) = true := by rw [plan3]; decide +kernel
    refine ⟨.str _, .str _, rfl, .str _, .inr ⟨_, rfl, by decide +kernel, fun _ H4 v4 e4 hv4 => ?_, fun no => by rw [pe1] at no; exact nomatch no⟩⟩
    refine ⟨.str _, .str _, rfl, .str _, .inr ⟨_, rfl, by decide +kernel, fun _ H5 v5 e5 hv5 => ⟨by show 5 ≤ sizeLine; omega, fun L5 n5 => ?_⟩, fun no => by rw [pe2] at no; exact nomatch no⟩⟩
    have eL := same_new (o := .lst [V.ref r1, .ref r2, .ref r3, v4, v5]) n5
    refine ⟨.ref L5, rfl, .inl ⟨rfl, _, .of upd_same⟩, ?_⟩
    refine ⟨.str _, .str _, rfl, .str _, .inr ⟨_, rfl, by decide +kernel, fun _ H7' v6 e6 hv6 => ?_, fun no => by rw [pe3] at no; exact nomatch no⟩⟩
    refine ⟨L5, _, _, rfl, rfl, e6 _ _ upd_same, by show 5 < sizeLine; omega, ?_⟩
    rw [i1] at hr1
    rw [i2] at hr2
    rw [i3] at hr3
    rw [plan1] at hv4
    rw [plan2] at hv5
    rw [plan3] at hv6
    have hL7 : H7' L5 = some (.lst [V.ref r1, .ref r2, .ref r3, v4, v5]) := e6 _ _ upd_same
    have e35 := (e4.trans e5).trans (eL.trans e6)
    have q1 := e35 _ _ (e3 _ _ (e2 _ _ hr1))
    have q2 := e35 _ _ (e3 _ _ hr2)
    have q3 := e35 _ _ hr3
    have q4 := Dp.same (e5.trans (eL.trans e6)) hv4
    have q5 := Dp.same (eL.trans e6) hv5
    have all : LamX.ExtN HB H7' := ext_of ((e1.trans (e2.trans e3)).trans e35)
    have nL5 : HB L5 = none := same_none ((e1.trans (e2.trans e3)).trans (e4.trans e5)) n5
    have SC := ext_lst all SB
    have TC := tabs_same ((e1.trans (e2.trans e3)).trans e35) TB
    have xE : LamX.ExtN HB (upd H7' L5 (.lst ([V.ref r1, .ref r2, .ref r3, v4, v5] ++ [v6]))) := ext_upd all fun o z => by rw [nL5] at z; exact nomatch z
    have TE := tabs_upd (o := .lst ([V.ref r1, .ref r2, .ref r3, v4, v5] ++ [v6])) hL7 TC
    have SE := ext_lst xE SB
    have tupK : ∀ {v : V} {ds : List PyData}, Tp K H7' v (.tuple ds) → Tp K (upd H7' L5 (.lst ([V.ref r1, .ref r2, .ref r3, v4, v5] ++ [v6]))) v (.tuple ds) := fun h => h.stayT fun r xs z => tup_upd hL7 (fun _ z => nomatch z) (fun _ _ z => nomatch z) z
    have hD : (upd H7' L5 (.lst ([V.ref r1, .ref r2, .ref r3, v4, v5] ++ [v6]))) L5 = some (.lst [V.ref r1, .ref r2, .ref r3, v4, v5, v6]) := upd_same
    have a1 := tupK (Tp.ofInts (ns := [-1, 2, 0, -1]) (.of q1))
    have a2 := tupK (Tp.ofInts (ns := [-1]) (.of q2))
    have a3 := tupK (Tp.ofInts (ns := [2]) (.of q3))
    have a4 := tupK (Dp.tp q4 (by decide +kernel))
    have a5 := tupK (Dp.tp q5 (by decide +kernel))
    have a6 := tupK (Dp.tp hv6 (by decide +kernel))
    generalize upd H7' L5 (.lst ([V.ref r1, .ref r2, .ref r3, v4, v5] ++ [v6])) = HE at xE TE SE hD a1 a2 a3 a4 a5 a6 ⊢
    refine ⟨.ref L5, rfl, fun HZ v eZ hv => ?_⟩
    obtain ⟨b, rfl⟩ : ∃ b, v = .ref b := by
      unfold rightD at hv
      cases hv
      exact ⟨_, rfl⟩
    have st : St K HE HZ := .of eZ
    refine ⟨L5, b, rightD, rfl, ?_, Dp.same nw_sub hv, rightD_shows, true, rfl, iteF ⟨_, _, _, _, _, rfl, eZ.seq SE, tabs_same eZ TE⟩⟩
    exact .lst (.of (eZ _ _ hD)) (.cons (a1.stay st).dp (.cons (a2.stay st).dp (.cons (a3.stay st).dp (.cons (a4.stay st).dp (.cons (a5.stay st).dp (.cons (a6.stay st).dp .nil))))))
end
end Sg
set_option Elab.async false
set_option linter.all false
set_option maxRecDepth 100000
set_option maxHeartbeats 4000000
namespace Sg
open PySem PySem.Spec PyProof.Rows L2 StX
theorem kit_tno {K : PySem.W.Frag} {T : String} {C : Addr} (i : PySem.W.isClsIn K C = true) (t : PySem.W.typeIn K (.ref C) = some (.type "type")) (s : PySem.W.subIn K (.type T) (.ref C) = some false) : PySem.W.kitOne K (.type T) (.ref C) = some false := by
  unfold PySem.W.kitOne
  rw [if_neg (by simp)]
  have i' : (PySem.W.clsIn K C).isSome = true := i
  show (if ((PySem.W.clsIn K C).isSome && PySem.W.typeIn K (.ref C) == some (.type "type")) = true then PySem.W.subIn K (.type T) (.ref C) else none) = some false
  rw [i', t]
  exact s
theorem kit_ty_no {K : PySem.W.Frag} {u : String} {C : Addr} (m : PySem.W.kitMeta u = true) (s : PySem.W.subIn K (.ref C) (.type u) = some false) : PySem.W.kitOne K (.ref C) (.type u) = some false := by
  unfold PySem.W.kitOne
  rw [if_neg (by simp)]
  show (if PySem.W.kitMeta u = true then PySem.W.subIn K (.ref C) (.type u) else none) = some false
  rw [if_pos m]
  exact s
def lamNs : List Str := ["_law_none"]
def spT (cs : List (Addr × Addr)) (K : PySem.W.Frag) : Sp := spLaw K ((cs.zip lamNs).map fun q => (q.1.2, lamQ q.2))
theorem spT_end (cs : List (Addr × Addr)) (K : PySem.W.Frag) (H : Hp) (a : Addr) (ns : List Int) (hl : ns.length ≤ 63) (hO : ∀ p ∈ cs, H p.2 = some (.tbl #[])) (hS : SqL K H a (ns.map V.int)) : spT cs K [.ref a] H (fun v _ => v = .bl true) E0 :=
  ⟨a, ns, rfl, hS, hl, fun x hx => by
    obtain ⟨p, hp, rfl⟩ := List.mem_map.mp hx
    exact LamX.TabS.nil (hO p.1 (List.of_mem_zip hp).1), fun _ => rfl⟩
theorem all_mk {l : PySem.W.OpenLaw} {w : World} {q : Program} {K : PySem.W.Frag} {h : Heap} {mg : Str → Option Value} {fa fd0 fd1 fd2 fd3 fd4 fd5 fd6 fd7 fd8 fd9 fd10 fd11 fd12 fd13 fd14 fd15 fd16 fd17 fd18 fd19 fd20 fd21 fd22 fd23 fd24 fd25 fd26 fd27 fd28 fd29 fd30 fd31 fd32 fd33 fd34 fd35 fd36 fd37 fd38 fd39 C fm0 fm1 fm2 fm3 fm4 fm5 fm6 fm7 fm8 pp0 fp0 C0 C1 C2 C3 C4 C5 C6 C7 C8 C9 C10 C11 C12 C13 C14 C15 C16 C17 C18 C19 C20 C21 C22 C23 C24 C25 C26 C27 Gp cL0 PL0 : Addr} {tu_NOWHERE tu_STATIONS tu_MOST_ITEMS tu_MOST_WORKS tu_MOST_STARTS tu_NOTHING : Tok} {tw_NONE tw_DIGITS : Tok} {rsp0 : List Value} {fo ro : Option Value} {odd0 and0 odd1 and1 odd2 and2 odd3 and3 odd4 and4 odd5 and5 odd6 and6 odd7 and7 odd8 and8 odd9 and9 odd10 and10 odd11 and11 odd12 and12 odd13 and13 odd14 and14 odd15 and15 odd16 and16 odd17 and17 odd18 and18 odd19 and19 odd20 and20 odd21 and21 odd22 and22 odd23 and23 odd24 and24 odd25 and25 odd26 and26 odd27 and27 odd28 and28 odd29 and29 odd30 and30 odd31 and31 odd32 and32 odd33 and33 odd34 and34 odd35 and35 odd36 and36 odd37 and37 odd38 and38 odd39 and39 odm0 anm0 odm1 anm1 odm2 anm2 odm3 anm3 odm4 anm4 odm5 anm5 odm6 anm6 odm7 anm7 odm8 anm8 odp0 anp0 : Option Addr} {sld0 sld1 sld2 sld3 sld4 sld5 sld6 sld7 sld8 sld9 sld10 sld11 sld12 sld13 sld14 sld15 sld16 sld17 sld18 sld19 sld20 sld21 sld22 sld23 sld24 sld25 sld26 sld27 sld28 sld29 sld30 sld31 sld32 sld33 sld34 sld35 sld36 sld37 sld38 sld39 slm0 slm1 slm2 slm3 slm4 slm5 slm6 slm7 slm8 slp0 : Array (Option Value)} {ocd0 kVd0 dcd0 pmd0 cdd0 ctd0 ocd1 kVd1 dcd1 pmd1 cdd1 ctd1 ocd2 kVd2 dcd2 pmd2 cdd2 ctd2 ocd3 kVd3 dcd3 pmd3 cdd3 ctd3 ocd4 kVd4 dcd4 pmd4 cdd4 ctd4 ocd5 kVd5 dcd5 pmd5 cdd5 ctd5 ocd6 kVd6 dcd6 pmd6 cdd6 ctd6 ocd7 kVd7 dcd7 pmd7 cdd7 ctd7 ocd8 kVd8 dcd8 pmd8 cdd8 ctd8 ocd9 kVd9 dcd9 pmd9 cdd9 ctd9 ocd10 kVd10 dcd10 pmd10 cdd10 ctd10 ocd11 kVd11 dcd11 pmd11 cdd11 ctd11 ocd12 kVd12 dcd12 pmd12 cdd12 ctd12 ocd13 kVd13 dcd13 pmd13 cdd13 ctd13 ocd14 kVd14 dcd14 pmd14 cdd14 ctd14 ocd15 kVd15 dcd15 pmd15 cdd15 ctd15 ocd16 kVd16 dcd16 pmd16 cdd16 ctd16 ocd17 kVd17 dcd17 pmd17 cdd17 ctd17 ocd18 kVd18 dcd18 pmd18 cdd18 ctd18 ocd19 kVd19 dcd19 pmd19 cdd19 ctd19 ocd20 kVd20 dcd20 pmd20 cdd20 ctd20 ocd21 kVd21 dcd21 pmd21 cdd21 ctd21 ocd22 kVd22 dcd22 pmd22 cdd22 ctd22 ocd23 kVd23 dcd23 pmd23 cdd23 ctd23 ocd24 kVd24 dcd24 pmd24 cdd24 ctd24 ocd25 kVd25 dcd25 pmd25 cdd25 ctd25 ocd26 kVd26 dcd26 pmd26 cdd26 ctd26 ocd27 kVd27 dcd27 pmd27 cdd27 ctd27 ocd28 kVd28 dcd28 pmd28 cdd28 ctd28 ocd29 kVd29 dcd29 pmd29 cdd29 ctd29 ocd30 kVd30 dcd30 pmd30 cdd30 ctd30 ocd31 kVd31 dcd31 pmd31 cdd31 ctd31 ocd32 kVd32 dcd32 pmd32 cdd32 ctd32 ocd33 kVd33 dcd33 pmd33 cdd33 ctd33 ocd34 kVd34 dcd34 pmd34 cdd34 ctd34 ocd35 kVd35 dcd35 pmd35 cdd35 ctd35 ocd36 kVd36 dcd36 pmd36 cdd36 ctd36 ocd37 kVd37 dcd37 pmd37 cdd37 ctd37 ocd38 kVd38 dcd38 pmd38 cdd38 ctd38 ocd39 kVd39 dcd39 pmd39 cdd39 ctd39 ocm0 kVm0 dcm0 pmm0 cdm0 ctm0 ocm1 kVm1 dcm1 pmm1 cdm1 ctm1 ocm2 kVm2 dcm2 pmm2 cdm2 ctm2 ocm3 kVm3 dcm3 pmm3 cdm3 ctm3 ocm4 kVm4 dcm4 pmm4 cdm4 ctm4 ocm5 kVm5 dcm5 pmm5 cdm5 ctm5 ocm6 kVm6 dcm6 pmm6 cdm6 ctm6 ocm7 kVm7 dcm7 pmm7 cdm7 ctm7 ocm8 kVm8 dcm8 pmm8 cdm8 ctm8 ocp0 kVp0 dcp0 pmp0 cdp0 ctp0 : Value} {ocL0 : Value} {odL0 : Option Addr} {vsL0 : Array Value} {slL0 : Array (Option Value)} (X : K.In h) (G : h.Ns mainGlobals mg) (hfa : mg "law" = some (.ref fa))
    (ad0 : PySem.W.nsIn K mainGlobals "is_int" = some (some (.ref fd0)))
    (ld0 : K.lookup fd0 = some ⟨ocd0, odd0, .func (PySem.W.fnOf "is_int" "is_int" (defArgs s_is_int) (defBody s_is_int) (defScope s_is_int) .none kVd0 dcd0 pmd0 and0 cdd0 ctd0), sld0⟩)
    (cd0 : PySem.W.codeIn K cdd0 "is_int" = true)
    (kd0 : PySem.W.keepIn K (.ref fd0) = true)
    (ad1 : PySem.W.nsIn K mainGlobals "is_between" = some (some (.ref fd1)))
    (ld1 : K.lookup fd1 = some ⟨ocd1, odd1, .func (PySem.W.fnOf "is_between" "is_between" (defArgs s_is_between) (defBody s_is_between) (defScope s_is_between) .none kVd1 dcd1 pmd1 and1 cdd1 ctd1), sld1⟩)
    (cd1 : PySem.W.codeIn K cdd1 "is_between" = true)
    (kd1 : PySem.W.keepIn K (.ref fd1) = true)
    (ad2 : PySem.W.nsIn K mainGlobals "is_work" = some (some (.ref fd2)))
    (ld2 : K.lookup fd2 = some ⟨ocd2, odd2, .func (PySem.W.fnOf "is_work" "is_work" (defArgs s_is_work) (defBody s_is_work) (defScope s_is_work) .none kVd2 dcd2 pmd2 and2 cdd2 ctd2), sld2⟩)
    (cd2 : PySem.W.codeIn K cdd2 "is_work" = true)
    (kd2 : PySem.W.keepIn K (.ref fd2) = true)
    (ad3 : PySem.W.nsIn K mainGlobals "bars" = some (some (.ref fd3)))
    (ld3 : K.lookup fd3 = some ⟨ocd3, odd3, .func (PySem.W.fnOf "bars" "bars" (defArgs s_bars) (defBody s_bars) (defScope s_bars) .none kVd3 dcd3 pmd3 and3 cdd3 ctd3), sld3⟩)
    (cd3 : PySem.W.codeIn K cdd3 "bars" = true)
    (kd3 : PySem.W.keepIn K (.ref fd3) = true)
    (ad4 : PySem.W.nsIn K mainGlobals "require_work" = some (some (.ref fd4)))
    (ld4 : K.lookup fd4 = some ⟨ocd4, odd4, .func (PySem.W.fnOf "require_work" "require_work" (defArgs s_require_work) (defBody s_require_work) (defScope s_require_work) .none kVd4 dcd4 pmd4 and4 cdd4 ctd4), sld4⟩)
    (cd4 : PySem.W.codeIn K cdd4 "require_work" = true)
    (kd4 : PySem.W.keepIn K (.ref fd4) = true)
    (ad5 : PySem.W.nsIn K mainGlobals "_clashes_behind" = some (some (.ref fd5)))
    (ld5 : K.lookup fd5 = some ⟨ocd5, odd5, .func (PySem.W.fnOf "_clashes_behind" "_clashes_behind" (defArgs s_clashes_behind) (defBody s_clashes_behind) (defScope s_clashes_behind) .none kVd5 dcd5 pmd5 and5 cdd5 ctd5), sld5⟩)
    (cd5 : PySem.W.codeIn K cdd5 "_clashes_behind" = true)
    (kd5 : PySem.W.keepIn K (.ref fd5) = true)
    (ad6 : PySem.W.nsIn K mainGlobals "is_kind" = some (some (.ref fd6)))
    (ld6 : K.lookup fd6 = some ⟨ocd6, odd6, .func (PySem.W.fnOf "is_kind" "is_kind" (defArgs s_is_kind) (defBody s_is_kind) (defScope s_is_kind) .none kVd6 dcd6 pmd6 and6 cdd6 ctd6), sld6⟩)
    (cd6 : PySem.W.codeIn K cdd6 "is_kind" = true)
    (kd6 : PySem.W.keepIn K (.ref fd6) = true)
    (ad7 : PySem.W.nsIn K mainGlobals "require_kind" = some (some (.ref fd7)))
    (ld7 : K.lookup fd7 = some ⟨ocd7, odd7, .func (PySem.W.fnOf "require_kind" "require_kind" (defArgs s_require_kind) (defBody s_require_kind) (defScope s_require_kind) .none kVd7 dcd7 pmd7 and7 cdd7 ctd7), sld7⟩)
    (cd7 : PySem.W.codeIn K cdd7 "require_kind" = true)
    (kd7 : PySem.W.keepIn K (.ref fd7) = true)
    (ad8 : PySem.W.nsIn K mainGlobals "_bars_of_all" = some (some (.ref fd8)))
    (ld8 : K.lookup fd8 = some ⟨ocd8, odd8, .func (PySem.W.fnOf "_bars_of_all" "_bars_of_all" (defArgs s_bars_of_all) (defBody s_bars_of_all) (defScope s_bars_of_all) .none kVd8 dcd8 pmd8 and8 cdd8 ctd8), sld8⟩)
    (cd8 : PySem.W.codeIn K cdd8 "_bars_of_all" = true)
    (kd8 : PySem.W.keepIn K (.ref fd8) = true)
    (ad9 : PySem.W.nsIn K mainGlobals "require_line" = some (some (.ref fd9)))
    (ld9 : K.lookup fd9 = some ⟨ocd9, odd9, .func (PySem.W.fnOf "require_line" "require_line" (defArgs s_require_line) (defBody s_require_line) (defScope s_require_line) .none kVd9 dcd9 pmd9 and9 cdd9 ctd9), sld9⟩)
    (cd9 : PySem.W.codeIn K cdd9 "require_line" = true)
    (kd9 : PySem.W.keepIn K (.ref fd9) = true)
    (ad10 : PySem.W.nsIn K mainGlobals "is_plan" = some (some (.ref fd10)))
    (ld10 : K.lookup fd10 = some ⟨ocd10, odd10, .func (PySem.W.fnOf "is_plan" "is_plan" (defArgs s_is_plan) (defBody s_is_plan) (defScope s_is_plan) .none kVd10 dcd10 pmd10 and10 cdd10 ctd10), sld10⟩)
    (cd10 : PySem.W.codeIn K cdd10 "is_plan" = true)
    (kd10 : PySem.W.keepIn K (.ref fd10) = true)
    (ad11 : PySem.W.nsIn K mainGlobals "require_plan" = some (some (.ref fd11)))
    (ld11 : K.lookup fd11 = some ⟨ocd11, odd11, .func (PySem.W.fnOf "require_plan" "require_plan" (defArgs s_require_plan) (defBody s_require_plan) (defScope s_require_plan) .none kVd11 dcd11 pmd11 and11 cdd11 ctd11), sld11⟩)
    (cd11 : PySem.W.codeIn K cdd11 "require_plan" = true)
    (kd11 : PySem.W.keepIn K (.ref fd11) = true)
    (ad12 : PySem.W.nsIn K mainGlobals "_is_start" = some (some (.ref fd12)))
    (ld12 : K.lookup fd12 = some ⟨ocd12, odd12, .func (PySem.W.fnOf "_is_start" "_is_start" (defArgs s_is_start) (defBody s_is_start) (defScope s_is_start) .none kVd12 dcd12 pmd12 and12 cdd12 ctd12), sld12⟩)
    (cd12 : PySem.W.codeIn K cdd12 "_is_start" = true)
    (kd12 : PySem.W.keepIn K (.ref fd12) = true)
    (ad13 : PySem.W.nsIn K mainGlobals "is_lap" = some (some (.ref fd13)))
    (ld13 : K.lookup fd13 = some ⟨ocd13, odd13, .func (PySem.W.fnOf "is_lap" "is_lap" (defArgs s_is_lap) (defBody s_is_lap) (defScope s_is_lap) .none kVd13 dcd13 pmd13 and13 cdd13 ctd13), sld13⟩)
    (cd13 : PySem.W.codeIn K cdd13 "is_lap" = true)
    (kd13 : PySem.W.keepIn K (.ref fd13) = true)
    (ad14 : PySem.W.nsIn K mainGlobals "require_lap" = some (some (.ref fd14)))
    (ld14 : K.lookup fd14 = some ⟨ocd14, odd14, .func (PySem.W.fnOf "require_lap" "require_lap" (defArgs s_require_lap) (defBody s_require_lap) (defScope s_require_lap) .none kVd14 dcd14 pmd14 and14 cdd14 ctd14), sld14⟩)
    (cd14 : PySem.W.codeIn K cdd14 "require_lap" = true)
    (kd14 : PySem.W.keepIn K (.ref fd14) = true)
    (ad15 : PySem.W.nsIn K mainGlobals "work_text" = some (some (.ref fd15)))
    (ld15 : K.lookup fd15 = some ⟨ocd15, odd15, .func (PySem.W.fnOf "work_text" "work_text" (defArgs s_work_text) (defBody s_work_text) (defScope s_work_text) .none kVd15 dcd15 pmd15 and15 cdd15 ctd15), sld15⟩)
    (cd15 : PySem.W.codeIn K cdd15 "work_text" = true)
    (kd15 : PySem.W.keepIn K (.ref fd15) = true)
    (ad16 : PySem.W.nsIn K mainGlobals "lap_text" = some (some (.ref fd16)))
    (ld16 : K.lookup fd16 = some ⟨ocd16, odd16, .func (PySem.W.fnOf "lap_text" "lap_text" (defArgs s_lap_text) (defBody s_lap_text) (defScope s_lap_text) .none kVd16 dcd16 pmd16 and16 cdd16 ctd16), sld16⟩)
    (cd16 : PySem.W.codeIn K cdd16 "lap_text" = true)
    (kd16 : PySem.W.keepIn K (.ref fd16) = true)
    (ad17 : PySem.W.nsIn K mainGlobals "line_text" = some (some (.ref fd17)))
    (ld17 : K.lookup fd17 = some ⟨ocd17, odd17, .func (PySem.W.fnOf "line_text" "line_text" (defArgs s_line_text) (defBody s_line_text) (defScope s_line_text) .none kVd17 dcd17 pmd17 and17 cdd17 ctd17), sld17⟩)
    (cd17 : PySem.W.codeIn K cdd17 "line_text" = true)
    (kd17 : PySem.W.keepIn K (.ref fd17) = true)
    (ad18 : PySem.W.nsIn K mainGlobals "plan_text" = some (some (.ref fd18)))
    (ld18 : K.lookup fd18 = some ⟨ocd18, odd18, .func (PySem.W.fnOf "plan_text" "plan_text" (defArgs s_plan_text) (defBody s_plan_text) (defScope s_plan_text) .none kVd18 dcd18 pmd18 and18 cdd18 ctd18), sld18⟩)
    (cd18 : PySem.W.codeIn K cdd18 "plan_text" = true)
    (kd18 : PySem.W.keepIn K (.ref fd18) = true)
    (ad19 : PySem.W.nsIn K mainGlobals "read_work" = some (some (.ref fd19)))
    (ld19 : K.lookup fd19 = some ⟨ocd19, odd19, .func (PySem.W.fnOf "read_work" "read_work" (defArgs s_read_work) (defBody s_read_work) (defScope s_read_work) .none kVd19 dcd19 pmd19 and19 cdd19 ctd19), sld19⟩)
    (cd19 : PySem.W.codeIn K cdd19 "read_work" = true)
    (kd19 : PySem.W.keepIn K (.ref fd19) = true)
    (ad20 : PySem.W.nsIn K mainGlobals "read_lap" = some (some (.ref fd20)))
    (ld20 : K.lookup fd20 = some ⟨ocd20, odd20, .func (PySem.W.fnOf "read_lap" "read_lap" (defArgs s_read_lap) (defBody s_read_lap) (defScope s_read_lap) .none kVd20 dcd20 pmd20 and20 cdd20 ctd20), sld20⟩)
    (cd20 : PySem.W.codeIn K cdd20 "read_lap" = true)
    (kd20 : PySem.W.keepIn K (.ref fd20) = true)
    (ad21 : PySem.W.nsIn K mainGlobals "read_line" = some (some (.ref fd21)))
    (ld21 : K.lookup fd21 = some ⟨ocd21, odd21, .func (PySem.W.fnOf "read_line" "read_line" (defArgs s_read_line) (defBody s_read_line) (defScope s_read_line) .none kVd21 dcd21 pmd21 and21 cdd21 ctd21), sld21⟩)
    (cd21 : PySem.W.codeIn K cdd21 "read_line" = true)
    (kd21 : PySem.W.keepIn K (.ref fd21) = true)
    (ad22 : PySem.W.nsIn K mainGlobals "read_plan" = some (some (.ref fd22)))
    (ld22 : K.lookup fd22 = some ⟨ocd22, odd22, .func (PySem.W.fnOf "read_plan" "read_plan" (defArgs s_read_plan) (defBody s_read_plan) (defScope s_read_plan) .none kVd22 dcd22 pmd22 and22 cdd22 ctd22), sld22⟩)
    (cd22 : PySem.W.codeIn K cdd22 "read_plan" = true)
    (kd22 : PySem.W.keepIn K (.ref fd22) = true)
    (ad23 : PySem.W.nsIn K mainGlobals "_require_text" = some (some (.ref fd23)))
    (ld23 : K.lookup fd23 = some ⟨ocd23, odd23, .func (PySem.W.fnOf "_require_text" "_require_text" (defArgs s_require_text) (defBody s_require_text) (defScope s_require_text) .none kVd23 dcd23 pmd23 and23 cdd23 ctd23), sld23⟩)
    (cd23 : PySem.W.codeIn K cdd23 "_require_text" = true)
    (kd23 : PySem.W.keepIn K (.ref fd23) = true)
    (ad24 : PySem.W.nsIn K mainGlobals "_items_text" = some (some (.ref fd24)))
    (ld24 : K.lookup fd24 = some ⟨ocd24, odd24, .func (PySem.W.fnOf "_items_text" "_items_text" (defArgs s_items_text) (defBody s_items_text) (defScope s_items_text) .none kVd24 dcd24 pmd24 and24 cdd24 ctd24), sld24⟩)
    (cd24 : PySem.W.codeIn K cdd24 "_items_text" = true)
    (kd24 : PySem.W.keepIn K (.ref fd24) = true)
    (ad25 : PySem.W.nsIn K mainGlobals "_greatest_line" = some (some (.ref fd25)))
    (ld25 : K.lookup fd25 = some ⟨ocd25, odd25, .func (PySem.W.fnOf "_greatest_line" "_greatest_line" (defArgs s_greatest_line) (defBody s_greatest_line) (defScope s_greatest_line) .none kVd25 dcd25 pmd25 and25 cdd25 ctd25), sld25⟩)
    (cd25 : PySem.W.codeIn K cdd25 "_greatest_line" = true)
    (kd25 : PySem.W.keepIn K (.ref fd25) = true)
    (ad26 : PySem.W.nsIn K mainGlobals "_read_work" = some (some (.ref fd26)))
    (ld26 : K.lookup fd26 = some ⟨ocd26, odd26, .func (PySem.W.fnOf "_read_work" "_read_work" (defArgs s_read_work_in) (defBody s_read_work_in) (defScope s_read_work_in) .none kVd26 dcd26 pmd26 and26 cdd26 ctd26), sld26⟩)
    (cd26 : PySem.W.codeIn K cdd26 "_read_work" = true)
    (kd26 : PySem.W.keepIn K (.ref fd26) = true)
    (ad27 : PySem.W.nsIn K mainGlobals "_read_items" = some (some (.ref fd27)))
    (ld27 : K.lookup fd27 = some ⟨ocd27, odd27, .func (PySem.W.fnOf "_read_items" "_read_items" (defArgs s_read_items) (defBody s_read_items) (defScope s_read_items) .none kVd27 dcd27 pmd27 and27 cdd27 ctd27), sld27⟩)
    (cd27 : PySem.W.codeIn K cdd27 "_read_items" = true)
    (kd27 : PySem.W.keepIn K (.ref fd27) = true)
    (ad28 : PySem.W.nsIn K mainGlobals "_read_start" = some (some (.ref fd28)))
    (ld28 : K.lookup fd28 = some ⟨ocd28, odd28, .func (PySem.W.fnOf "_read_start" "_read_start" (defArgs s_read_start) (defBody s_read_start) (defScope s_read_start) .none kVd28 dcd28 pmd28 and28 cdd28 ctd28), sld28⟩)
    (cd28 : PySem.W.codeIn K cdd28 "_read_start" = true)
    (kd28 : PySem.W.keepIn K (.ref fd28) = true)
    (ad29 : PySem.W.nsIn K mainGlobals "_read_number" = some (some (.ref fd29)))
    (ld29 : K.lookup fd29 = some ⟨ocd29, odd29, .func (PySem.W.fnOf "_read_number" "_read_number" (defArgs s_read_number) (defBody s_read_number) (defScope s_read_number) .none kVd29 dcd29 pmd29 and29 cdd29 ctd29), sld29⟩)
    (cd29 : PySem.W.codeIn K cdd29 "_read_number" = true)
    (kd29 : PySem.W.keepIn K (.ref fd29) = true)
    (ad30 : PySem.W.nsIn K mainGlobals "_law_cell" = some (some (.ref fd30)))
    (ld30 : K.lookup fd30 = some ⟨ocd30, odd30, .func (PySem.W.fnOf "_law_cell" "_law_cell" (defArgs s_l_cell) (defBody s_l_cell) (defScope s_l_cell) .none kVd30 dcd30 pmd30 and30 cdd30 ctd30), sld30⟩)
    (cd30 : PySem.W.codeIn K cdd30 "_law_cell" = true)
    (kd30 : PySem.W.keepIn K (.ref fd30) = true)
    (ad31 : PySem.W.nsIn K mainGlobals "_law_pen" = some (some (.ref fd31)))
    (ld31 : K.lookup fd31 = some ⟨ocd31, odd31, .func (PySem.W.fnOf "_law_pen" "_law_pen" (defArgs s_l_pen) (defBody s_l_pen) (defScope s_l_pen) .none kVd31 dcd31 pmd31 and31 cdd31 ctd31), sld31⟩)
    (cd31 : PySem.W.codeIn K cdd31 "_law_pen" = true)
    (kd31 : PySem.W.keepIn K (.ref fd31) = true)
    (ad32 : PySem.W.nsIn K mainGlobals "_law_draw" = some (some (.ref fd32)))
    (ld32 : K.lookup fd32 = some ⟨ocd32, odd32, .func (PySem.W.fnOf "_law_draw" "_law_draw" (defArgs s_l_draw) (defBody s_l_draw) (defScope s_l_draw) .none kVd32 dcd32 pmd32 and32 cdd32 ctd32), sld32⟩)
    (cd32 : PySem.W.codeIn K cdd32 "_law_draw" = true)
    (kd32 : PySem.W.keepIn K (.ref fd32) = true)
    (ad33 : PySem.W.nsIn K mainGlobals "_law_mixed" = some (some (.ref fd33)))
    (ld33 : K.lookup fd33 = some ⟨ocd33, odd33, .func (PySem.W.fnOf "_law_mixed" "_law_mixed" (defArgs s_l_mixed) (defBody s_l_mixed) (defScope s_l_mixed) .none kVd33 dcd33 pmd33 and33 cdd33 ctd33), sld33⟩)
    (cd33 : PySem.W.codeIn K cdd33 "_law_mixed" = true)
    (kd33 : PySem.W.keepIn K (.ref fd33) = true)
    (ad34 : PySem.W.nsIn K mainGlobals "_law_same" = some (some (.ref fd34)))
    (ld34 : K.lookup fd34 = some ⟨ocd34, odd34, .func (PySem.W.fnOf "_law_same" "_law_same" (defArgs s_l_same) (defBody s_l_same) (defScope s_l_same) .none kVd34 dcd34 pmd34 and34 cdd34 ctd34), sld34⟩)
    (cd34 : PySem.W.codeIn K cdd34 "_law_same" = true)
    (kd34 : PySem.W.keepIn K (.ref fd34) = true)
    (ad35 : PySem.W.nsIn K mainGlobals "_law_word" = some (some (.ref fd35)))
    (ld35 : K.lookup fd35 = some ⟨ocd35, odd35, .func (PySem.W.fnOf "_law_word" "_law_word" (defArgs s_l_word) (defBody s_l_word) (defScope s_l_word) .none kVd35 dcd35 pmd35 and35 cdd35 ctd35), sld35⟩)
    (cd35 : PySem.W.codeIn K cdd35 "_law_word" = true)
    (kd35 : PySem.W.keepIn K (.ref fd35) = true)
    (ad36 : PySem.W.nsIn K mainGlobals "_law_said" = some (some (.ref fd36)))
    (ld36 : K.lookup fd36 = some ⟨ocd36, odd36, .func (PySem.W.fnOf "_law_said" "_law_said" (defArgs s_l_said) (defBody s_l_said) (defScope s_l_said) .none kVd36 dcd36 pmd36 and36 cdd36 ctd36), sld36⟩)
    (cd36 : PySem.W.codeIn K cdd36 "_law_said" = true)
    (kd36 : PySem.W.keepIn K (.ref fd36) = true)
    (ad37 : PySem.W.nsIn K mainGlobals "_law_right" = some (some (.ref fd37)))
    (ld37 : K.lookup fd37 = some ⟨ocd37, odd37, .func (PySem.W.fnOf "_law_right" "_law_right" (defArgs s_l_right) (defBody s_l_right) (defScope s_l_right) .none kVd37 dcd37 pmd37 and37 cdd37 ctd37), sld37⟩)
    (cd37 : PySem.W.codeIn K cdd37 "_law_right" = true)
    (kd37 : PySem.W.keepIn K (.ref fd37) = true)
    (ad38 : PySem.W.nsIn K mainGlobals "_law_none" = some (some (.ref fd38)))
    (ld38 : K.lookup fd38 = some ⟨ocd38, odd38, .func (PySem.W.fnOf "_law_none" "_law_none" (defArgs s_l_none) (defBody s_l_none) (defScope s_l_none) .none kVd38 dcd38 pmd38 and38 cdd38 ctd38), sld38⟩)
    (cd38 : PySem.W.codeIn K cdd38 "_law_none" = true)
    (kd38 : PySem.W.keepIn K (.ref fd38) = true)
    (ad39 : PySem.W.nsIn K mainGlobals "law" = some (some (.ref fd39)))
    (ld39 : K.lookup fd39 = some ⟨ocd39, odd39, .func (PySem.W.fnOf "law" "law" (defArgs s_law) (defBody s_law) (defScope s_law) .none kVd39 dcd39 pmd39 and39 cdd39 ctd39), sld39⟩)
    (cd39 : PySem.W.codeIn K cdd39 "law" = true)
    (kd39 : PySem.W.keepIn K (.ref fd39) = true)
    (aC : PySem.W.nsIn K mainGlobals "Line" = some (some (.ref C)))
    (am0 : PySem.W.findIn K (.ref C) "__init__" = some (some (.ref fm0)))
    (im0 : PySem.W.isFn K (.ref fm0) = true)
    (lm0 : K.lookup fm0 = some ⟨ocm0, odm0, .func (PySem.W.fnOf "__init__" "Line.__init__" (defArgs s_Line_init) (defBody s_Line_init) (defScope s_Line_init) .none kVm0 dcm0 pmm0 anm0 cdm0 ctm0), slm0⟩)
    (cm0 : PySem.W.codeIn K cdm0 "Line.__init__" = true)
    (km0 : PySem.W.keepIn K (.ref fm0) = true)
    (am1 : PySem.W.findIn K (.ref C) "__len__" = some (some (.ref fm1)))
    (im1 : PySem.W.isFn K (.ref fm1) = true)
    (lm1 : K.lookup fm1 = some ⟨ocm1, odm1, .func (PySem.W.fnOf "__len__" "Line.__len__" (defArgs s_Line_len) (defBody s_Line_len) (defScope s_Line_len) .none kVm1 dcm1 pmm1 anm1 cdm1 ctm1), slm1⟩)
    (cm1 : PySem.W.codeIn K cdm1 "Line.__len__" = true)
    (km1 : PySem.W.keepIn K (.ref fm1) = true)
    (am2 : PySem.W.findIn K (.ref C) "__call__" = some (some (.ref fm2)))
    (im2 : PySem.W.isFn K (.ref fm2) = true)
    (lm2 : K.lookup fm2 = some ⟨ocm2, odm2, .func (PySem.W.fnOf "__call__" "Line.__call__" (defArgs s_Line_call) (defBody s_Line_call) (defScope s_Line_call) .none kVm2 dcm2 pmm2 anm2 cdm2 ctm2), slm2⟩)
    (cm2 : PySem.W.codeIn K cdm2 "Line.__call__" = true)
    (km2 : PySem.W.keepIn K (.ref fm2) = true)
    (am3 : PySem.W.findIn K (.ref C) "__add__" = some (some (.ref fm3)))
    (im3 : PySem.W.isFn K (.ref fm3) = true)
    (lm3 : K.lookup fm3 = some ⟨ocm3, odm3, .func (PySem.W.fnOf "__add__" "Line.__add__" (defArgs s_Line_add) (defBody s_Line_add) (defScope s_Line_add) .none kVm3 dcm3 pmm3 anm3 cdm3 ctm3), slm3⟩)
    (cm3 : PySem.W.codeIn K cdm3 "Line.__add__" = true)
    (km3 : PySem.W.keepIn K (.ref fm3) = true)
    (am4 : PySem.W.findIn K (.ref C) "__sub__" = some (some (.ref fm4)))
    (im4 : PySem.W.isFn K (.ref fm4) = true)
    (lm4 : K.lookup fm4 = some ⟨ocm4, odm4, .func (PySem.W.fnOf "__sub__" "Line.__sub__" (defArgs s_Line_sub) (defBody s_Line_sub) (defScope s_Line_sub) .none kVm4 dcm4 pmm4 anm4 cdm4 ctm4), slm4⟩)
    (cm4 : PySem.W.codeIn K cdm4 "Line.__sub__" = true)
    (km4 : PySem.W.keepIn K (.ref fm4) = true)
    (am5 : PySem.W.findIn K (.ref C) "__neg__" = some (some (.ref fm5)))
    (im5 : PySem.W.isFn K (.ref fm5) = true)
    (lm5 : K.lookup fm5 = some ⟨ocm5, odm5, .func (PySem.W.fnOf "__neg__" "Line.__neg__" (defArgs s_Line_neg) (defBody s_Line_neg) (defScope s_Line_neg) .none kVm5 dcm5 pmm5 anm5 cdm5 ctm5), slm5⟩)
    (cm5 : PySem.W.codeIn K cdm5 "Line.__neg__" = true)
    (km5 : PySem.W.keepIn K (.ref fm5) = true)
    (am6 : PySem.W.findIn K (.ref C) "__eq__" = some (some (.ref fm6)))
    (im6 : PySem.W.isFn K (.ref fm6) = true)
    (lm6 : K.lookup fm6 = some ⟨ocm6, odm6, .func (PySem.W.fnOf "__eq__" "Line.__eq__" (defArgs s_Line_eq) (defBody s_Line_eq) (defScope s_Line_eq) .none kVm6 dcm6 pmm6 anm6 cdm6 ctm6), slm6⟩)
    (cm6 : PySem.W.codeIn K cdm6 "Line.__eq__" = true)
    (km6 : PySem.W.keepIn K (.ref fm6) = true)
    (am7 : PySem.W.findIn K (.ref C) "__getitem__" = some (some (.ref fm7)))
    (im7 : PySem.W.isFn K (.ref fm7) = true)
    (lm7 : K.lookup fm7 = some ⟨ocm7, odm7, .func (PySem.W.fnOf "__getitem__" "Line.__getitem__" (defArgs s_Line_getitem) (defBody s_Line_getitem) (defScope s_Line_getitem) .none kVm7 dcm7 pmm7 anm7 cdm7 ctm7), slm7⟩)
    (cm7 : PySem.W.codeIn K cdm7 "Line.__getitem__" = true)
    (km7 : PySem.W.keepIn K (.ref fm7) = true)
    (am8 : PySem.W.findIn K (.ref C) "__repr__" = some (some (.ref fm8)))
    (im8 : PySem.W.isFn K (.ref fm8) = true)
    (lm8 : K.lookup fm8 = some ⟨ocm8, odm8, .func (PySem.W.fnOf "__repr__" "Line.__repr__" (defArgs s_Line_repr) (defBody s_Line_repr) (defScope s_Line_repr) .none kVm8 dcm8 pmm8 anm8 cdm8 ctm8), slm8⟩)
    (cm8 : PySem.W.codeIn K cdm8 "Line.__repr__" = true)
    (km8 : PySem.W.keepIn K (.ref fm8) = true)
    (ap0 : PySem.W.findIn K (.ref C) "works" = some (some (.ref pp0)))
    (gp0 : PySem.W.specialIn K (.ref pp0) "__get__" = some (some (.builtin "property.__get__")))
    (tp0 : PySem.W.takesIn K (.ref pp0) = some true)
    (rp0 : PySem.W.recIn K pp0 "property" = some (.ref fp0 :: rsp0))
    (lp0 : K.lookup fp0 = some ⟨ocp0, odp0, .func (PySem.W.fnOf "works" "Line.works" (defArgs s_Line_works) (defBody s_Line_works) (defScope s_Line_works) .none kVp0 dcp0 pmp0 anp0 cdp0 ctp0), slp0⟩)
    (cp0 : PySem.W.codeIn K cdp0 "Line.works" = true)
    (kp0 : PySem.W.keepIn K (.ref fp0) = true)
    (pg : PySem.W.plainGet K C Str.empty = true)
    (hd : PySem.W.hasDictIn K C = true)
    (po : PySem.W.plainOver K C = true)
    (sa : PySem.W.findIn K (.ref C) "__setattr__" = some (some (.builtin "object.__setattr__")))
    (mk : PySem.W.makesIn K C = true)
    (kc : PySem.W.keepIn K (.ref C) = true)
    (nW : PySem.W.findIn K (.ref C) "_works" = some none)
    (nB : PySem.W.findIn K (.ref C) "_bars" = some none)
    (nR : PySem.W.findIn K (.ref C) "_reach" = some none)
    (ha : PySem.W.findIn K (.ref C) "__class__" = some (some (.builtin "object.__class__")))
    (hn : PySem.W.specialIn K (.builtin "object.__class__") "__get__" = some (some (.builtin "getset_descriptor.__get__")))
    (ht : PySem.W.takesIn K (.builtin "object.__class__") = some true)
    (hm : PySem.W.mroIn K C (.type "object") = some true)
    (sf : PySem.W.selfFirst K C = true)
    (rs : PySem.W.findIn K (.ref C) "__rsub__" = some none)
    (is1 : PySem.W.findIn K (.type "int") "__sub__" = some fo)
    (ir1 : PySem.W.findIn K (.type "int") "__rsub__" = some ro)
    (nsub : PySem.W.subIn K (.type "int") (.ref C) = some false)
    (ne : PySem.W.findIn K (.ref C) "__ne__" = some (some (.builtin "object.__ne__")))
    (ob : PySem.W.subIn K (.ref C) (.type "object") = some true)
    (fi : PySem.W.fnIn K fm2 = true)
    (fg : PySem.W.fnIn K fm7 = true)
    (iCl : PySem.W.isClsIn K C = true)
    (tCl : PySem.W.typeIn K (.ref C) = some (.type "type"))
    (ns_NoneType : PySem.W.subIn K (.type "NoneType") (.ref C) = some false)
    (ns_bool : PySem.W.subIn K (.type "bool") (.ref C) = some false)
    (ns_int : PySem.W.subIn K (.type "int") (.ref C) = some false)
    (ns_str : PySem.W.subIn K (.type "str") (.ref C) = some false)
    (ns_list : PySem.W.subIn K (.type "list") (.ref C) = some false)
    (ns_tuple : PySem.W.subIn K (.type "tuple") (.ref C) = some false)
    (ns_dict : PySem.W.subIn K (.type "dict") (.ref C) = some false)
    (nt_tuple : PySem.W.subIn K (.ref C) (.type "tuple") = some false)
    (nt_int : PySem.W.subIn K (.ref C) (.type "int") = some false)
    (nt_bool : PySem.W.subIn K (.ref C) (.type "bool") = some false)
    (nt_str : PySem.W.subIn K (.ref C) (.type "str") = some false)
    (nt_list : PySem.W.subIn K (.ref C) (.type "list") = some false)
    (z_isinstance : PySem.W.nsIn K mainGlobals "isinstance" = some none)
    (z_int : PySem.W.nsIn K mainGlobals "int" = some none)
    (z_bool : PySem.W.nsIn K mainGlobals "bool" = some none)
    (z_tuple : PySem.W.nsIn K mainGlobals "tuple" = some none)
    (z_len : PySem.W.nsIn K mainGlobals "len" = some none)
    (z_all : PySem.W.nsIn K mainGlobals "all" = some none)
    (z_any : PySem.W.nsIn K mainGlobals "any" = some none)
    (z_zip : PySem.W.nsIn K mainGlobals "zip" = some none)
    (z_range : PySem.W.nsIn K mainGlobals "range" = some none)
    (z_max : PySem.W.nsIn K mainGlobals "max" = some none)
    (z_min : PySem.W.nsIn K mainGlobals "min" = some none)
    (z_list : PySem.W.nsIn K mainGlobals "list" = some none)
    (z_str : PySem.W.nsIn K mainGlobals "str" = some none)
    (z_repr : PySem.W.nsIn K mainGlobals "repr" = some none)
    (z_ValueError : PySem.W.nsIn K mainGlobals "ValueError" = some none)
    (u_NOWHERE : PySem.W.nsIn K mainGlobals "NOWHERE" = some (some (.int (-1) tu_NOWHERE)))
    (u_STATIONS : PySem.W.nsIn K mainGlobals "STATIONS" = some (some (.int (10) tu_STATIONS)))
    (u_MOST_ITEMS : PySem.W.nsIn K mainGlobals "MOST_ITEMS" = some (some (.int (60) tu_MOST_ITEMS)))
    (u_MOST_WORKS : PySem.W.nsIn K mainGlobals "MOST_WORKS" = some (some (.int (3) tu_MOST_WORKS)))
    (u_MOST_STARTS : PySem.W.nsIn K mainGlobals "MOST_STARTS" = some (some (.int (60) tu_MOST_STARTS)))
    (u_NOTHING : PySem.W.nsIn K mainGlobals "NOTHING" = some (some (.int (-1) tu_NOTHING)))
    (w_NONE : PySem.W.nsIn K mainGlobals "NONE" = some (some (.str "none" tw_NONE)))
    (w_DIGITS : PySem.W.nsIn K mainGlobals "DIGITS" = some (some (.str "0123456789" tw_DIGITS)))
    (aC0 : PySem.W.nsIn K mainGlobals "NoWork" = some (some (.ref C0)))
    (iC0 : PySem.W.isClsIn K C0 = true)
    (tC0 : PySem.W.typeIn K (.ref C0) = some (.type "type"))
    (aC1 : PySem.W.nsIn K mainGlobals "NoLine" = some (some (.ref C1)))
    (iC1 : PySem.W.isClsIn K C1 = true)
    (tC1 : PySem.W.typeIn K (.ref C1) = some (.type "type"))
    (aC2 : PySem.W.nsIn K mainGlobals "NoKind" = some (some (.ref C2)))
    (iC2 : PySem.W.isClsIn K C2 = true)
    (tC2 : PySem.W.typeIn K (.ref C2) = some (.type "type"))
    (aC3 : PySem.W.nsIn K mainGlobals "OnlyOne" = some (some (.ref C3)))
    (iC3 : PySem.W.isClsIn K C3 = true)
    (tC3 : PySem.W.typeIn K (.ref C3) = some (.type "type"))
    (aC4 : PySem.W.nsIn K mainGlobals "NoPlan" = some (some (.ref C4)))
    (iC4 : PySem.W.isClsIn K C4 = true)
    (tC4 : PySem.W.typeIn K (.ref C4) = some (.type "type"))
    (aC5 : PySem.W.nsIn K mainGlobals "NoKinds" = some (some (.ref C5)))
    (iC5 : PySem.W.isClsIn K C5 = true)
    (tC5 : PySem.W.typeIn K (.ref C5) = some (.type "type"))
    (aC6 : PySem.W.nsIn K mainGlobals "NoCounts" = some (some (.ref C6)))
    (iC6 : PySem.W.isClsIn K C6 = true)
    (tC6 : PySem.W.typeIn K (.ref C6) = some (.type "type"))
    (aC7 : PySem.W.nsIn K mainGlobals "NoState" = some (some (.ref C7)))
    (iC7 : PySem.W.isClsIn K C7 = true)
    (tC7 : PySem.W.typeIn K (.ref C7) = some (.type "type"))
    (aC8 : PySem.W.nsIn K mainGlobals "NoChoice" = some (some (.ref C8)))
    (iC8 : PySem.W.isClsIn K C8 = true)
    (tC8 : PySem.W.typeIn K (.ref C8) = some (.type "type"))
    (aC9 : PySem.W.nsIn K mainGlobals "NoTick" = some (some (.ref C9)))
    (iC9 : PySem.W.isClsIn K C9 = true)
    (tC9 : PySem.W.typeIn K (.ref C9) = some (.type "type"))
    (aC10 : PySem.W.nsIn K mainGlobals "NoLap" = some (some (.ref C10)))
    (iC10 : PySem.W.isClsIn K C10 = true)
    (tC10 : PySem.W.typeIn K (.ref C10) = some (.type "type"))
    (aC11 : PySem.W.nsIn K mainGlobals "NotFitting" = some (some (.ref C11)))
    (iC11 : PySem.W.isClsIn K C11 = true)
    (tC11 : PySem.W.typeIn K (.ref C11) = some (.type "type"))
    (aC12 : PySem.W.nsIn K mainGlobals "NoWorths" = some (some (.ref C12)))
    (iC12 : PySem.W.isClsIn K C12 = true)
    (tC12 : PySem.W.typeIn K (.ref C12) = some (.type "type"))
    (aC13 : PySem.W.nsIn K mainGlobals "NoWaits" = some (some (.ref C13)))
    (iC13 : PySem.W.isClsIn K C13 = true)
    (tC13 : PySem.W.typeIn K (.ref C13) = some (.type "type"))
    (aC14 : PySem.W.nsIn K mainGlobals "NoDistance" = some (some (.ref C14)))
    (iC14 : PySem.W.isClsIn K C14 = true)
    (tC14 : PySem.W.typeIn K (.ref C14) = some (.type "type"))
    (aC15 : PySem.W.nsIn K mainGlobals "NotTwo" = some (some (.ref C15)))
    (iC15 : PySem.W.isClsIn K C15 = true)
    (tC15 : PySem.W.typeIn K (.ref C15) = some (.type "type"))
    (aC16 : PySem.W.nsIn K mainGlobals "NoRate" = some (some (.ref C16)))
    (iC16 : PySem.W.isClsIn K C16 = true)
    (tC16 : PySem.W.typeIn K (.ref C16) = some (.type "type"))
    (aC17 : PySem.W.nsIn K mainGlobals "NoBars" = some (some (.ref C17)))
    (iC17 : PySem.W.isClsIn K C17 = true)
    (tC17 : PySem.W.typeIn K (.ref C17) = some (.type "type"))
    (aC18 : PySem.W.nsIn K mainGlobals "NoTicks" = some (some (.ref C18)))
    (iC18 : PySem.W.isClsIn K C18 = true)
    (tC18 : PySem.W.typeIn K (.ref C18) = some (.type "type"))
    (aC19 : PySem.W.nsIn K mainGlobals "NoStation" = some (some (.ref C19)))
    (iC19 : PySem.W.isClsIn K C19 = true)
    (tC19 : PySem.W.typeIn K (.ref C19) = some (.type "type"))
    (aC20 : PySem.W.nsIn K mainGlobals "NoPace" = some (some (.ref C20)))
    (iC20 : PySem.W.isClsIn K C20 = true)
    (tC20 : PySem.W.typeIn K (.ref C20) = some (.type "type"))
    (aC21 : PySem.W.nsIn K mainGlobals "NoText" = some (some (.ref C21)))
    (iC21 : PySem.W.isClsIn K C21 = true)
    (tC21 : PySem.W.typeIn K (.ref C21) = some (.type "type"))
    (aC22 : PySem.W.nsIn K mainGlobals "NothingDone" = some (some (.ref C22)))
    (iC22 : PySem.W.isClsIn K C22 = true)
    (tC22 : PySem.W.typeIn K (.ref C22) = some (.type "type"))
    (aC23 : PySem.W.nsIn K mainGlobals "Clash" = some (some (.ref C23)))
    (iC23 : PySem.W.isClsIn K C23 = true)
    (tC23 : PySem.W.typeIn K (.ref C23) = some (.type "type"))
    (aC24 : PySem.W.nsIn K mainGlobals "TooSoon" = some (some (.ref C24)))
    (iC24 : PySem.W.isClsIn K C24 = true)
    (tC24 : PySem.W.typeIn K (.ref C24) = some (.type "type"))
    (aC25 : PySem.W.nsIn K mainGlobals "TooMany" = some (some (.ref C25)))
    (iC25 : PySem.W.isClsIn K C25 = true)
    (tC25 : PySem.W.typeIn K (.ref C25) = some (.type "type"))
    (aC26 : PySem.W.nsIn K mainGlobals "TooFar" = some (some (.ref C26)))
    (iC26 : PySem.W.isClsIn K C26 = true)
    (tC26 : PySem.W.typeIn K (.ref C26) = some (.type "type"))
    (aC27 : PySem.W.nsIn K mainGlobals "TooLong" = some (some (.ref C27)))
    (iC27 : PySem.W.isClsIn K C27 = true)
    (tC27 : PySem.W.typeIn K (.ref C27) = some (.type "type"))
    (aGp : PySem.W.nsIn K mainGlobals "GapError" = some (some (.ref Gp)))
    (iGp : PySem.W.isClsIn K Gp = true)
    (tGp : PySem.W.typeIn K (.ref Gp) = some (.type "type"))
    (bGp : PySem.W.subIn K (.ref Gp) (.type "BaseException") = some true)
    (er_x21 : PySem.W.excIn K C21 [.type "ValueError", .type "Exception", .type "BaseException", .type "object"] "ValueError.__new__" = true)
    (er_k21 : PySem.W.keepIn K (.ref C21) = true)
    (er_b21 : PySem.W.subIn K (.ref C21) (.type "BaseException") = some true)
    (er_v21 : PySem.W.subIn K (.ref C21) (.type "ValueError") = some true)
    (er_g21 : PySem.W.subIn K (.ref C21) (.ref Gp) = some true)
    (er_s21 : PySem.W.subIn K (.ref C21) (.ref C21) = some true)
    (er_n21_0 : PySem.W.subIn K (.ref C21) (.ref C0) = some false)
    (er_n21_1 : PySem.W.subIn K (.ref C21) (.ref C1) = some false)
    (er_n21_2 : PySem.W.subIn K (.ref C21) (.ref C2) = some false)
    (er_n21_3 : PySem.W.subIn K (.ref C21) (.ref C3) = some false)
    (er_n21_4 : PySem.W.subIn K (.ref C21) (.ref C4) = some false)
    (er_n21_5 : PySem.W.subIn K (.ref C21) (.ref C5) = some false)
    (er_n21_6 : PySem.W.subIn K (.ref C21) (.ref C6) = some false)
    (er_n21_7 : PySem.W.subIn K (.ref C21) (.ref C7) = some false)
    (er_n21_8 : PySem.W.subIn K (.ref C21) (.ref C8) = some false)
    (er_n21_9 : PySem.W.subIn K (.ref C21) (.ref C9) = some false)
    (er_n21_10 : PySem.W.subIn K (.ref C21) (.ref C10) = some false)
    (er_n21_11 : PySem.W.subIn K (.ref C21) (.ref C11) = some false)
    (er_n21_12 : PySem.W.subIn K (.ref C21) (.ref C12) = some false)
    (er_n21_13 : PySem.W.subIn K (.ref C21) (.ref C13) = some false)
    (er_n21_14 : PySem.W.subIn K (.ref C21) (.ref C14) = some false)
    (er_n21_15 : PySem.W.subIn K (.ref C21) (.ref C15) = some false)
    (er_n21_16 : PySem.W.subIn K (.ref C21) (.ref C16) = some false)
    (er_n21_17 : PySem.W.subIn K (.ref C21) (.ref C17) = some false)
    (er_n21_18 : PySem.W.subIn K (.ref C21) (.ref C18) = some false)
    (er_n21_19 : PySem.W.subIn K (.ref C21) (.ref C19) = some false)
    (er_n21_20 : PySem.W.subIn K (.ref C21) (.ref C20) = some false)
    (er_n21_22 : PySem.W.subIn K (.ref C21) (.ref C22) = some false)
    (er_n21_23 : PySem.W.subIn K (.ref C21) (.ref C23) = some false)
    (er_n21_24 : PySem.W.subIn K (.ref C21) (.ref C24) = some false)
    (er_n21_25 : PySem.W.subIn K (.ref C21) (.ref C25) = some false)
    (er_n21_26 : PySem.W.subIn K (.ref C21) (.ref C26) = some false)
    (er_n21_27 : PySem.W.subIn K (.ref C21) (.ref C27) = some false)
    (er_hg21 : PySem.W.findIn K (.ref C21) "__getattribute__" = some (some (.builtin "BaseException.__getattribute__")))
    (er_hk21 : PySem.W.findIn K (.ref C21) "__getattr__" = some none)
    (er_hd21 : PySem.W.hasDictIn K C21 = true)
    (er_ha21 : PySem.W.findIn K (.ref C21) "__class__" = some (some (.builtin "object.__class__")))
    (er_hm21 : PySem.W.mroIn K C21 (.type "object") = some true)
    (er_x1 : PySem.W.excIn K C1 [.type "ValueError", .type "Exception", .type "BaseException", .type "object"] "ValueError.__new__" = true)
    (er_k1 : PySem.W.keepIn K (.ref C1) = true)
    (er_b1 : PySem.W.subIn K (.ref C1) (.type "BaseException") = some true)
    (er_v1 : PySem.W.subIn K (.ref C1) (.type "ValueError") = some true)
    (er_g1 : PySem.W.subIn K (.ref C1) (.ref Gp) = some true)
    (er_s1 : PySem.W.subIn K (.ref C1) (.ref C1) = some true)
    (er_n1_0 : PySem.W.subIn K (.ref C1) (.ref C0) = some false)
    (er_n1_2 : PySem.W.subIn K (.ref C1) (.ref C2) = some false)
    (er_n1_3 : PySem.W.subIn K (.ref C1) (.ref C3) = some false)
    (er_n1_4 : PySem.W.subIn K (.ref C1) (.ref C4) = some false)
    (er_n1_5 : PySem.W.subIn K (.ref C1) (.ref C5) = some false)
    (er_n1_6 : PySem.W.subIn K (.ref C1) (.ref C6) = some false)
    (er_n1_7 : PySem.W.subIn K (.ref C1) (.ref C7) = some false)
    (er_n1_8 : PySem.W.subIn K (.ref C1) (.ref C8) = some false)
    (er_n1_9 : PySem.W.subIn K (.ref C1) (.ref C9) = some false)
    (er_n1_10 : PySem.W.subIn K (.ref C1) (.ref C10) = some false)
    (er_n1_11 : PySem.W.subIn K (.ref C1) (.ref C11) = some false)
    (er_n1_12 : PySem.W.subIn K (.ref C1) (.ref C12) = some false)
    (er_n1_13 : PySem.W.subIn K (.ref C1) (.ref C13) = some false)
    (er_n1_14 : PySem.W.subIn K (.ref C1) (.ref C14) = some false)
    (er_n1_15 : PySem.W.subIn K (.ref C1) (.ref C15) = some false)
    (er_n1_16 : PySem.W.subIn K (.ref C1) (.ref C16) = some false)
    (er_n1_17 : PySem.W.subIn K (.ref C1) (.ref C17) = some false)
    (er_n1_18 : PySem.W.subIn K (.ref C1) (.ref C18) = some false)
    (er_n1_19 : PySem.W.subIn K (.ref C1) (.ref C19) = some false)
    (er_n1_20 : PySem.W.subIn K (.ref C1) (.ref C20) = some false)
    (er_n1_21 : PySem.W.subIn K (.ref C1) (.ref C21) = some false)
    (er_n1_22 : PySem.W.subIn K (.ref C1) (.ref C22) = some false)
    (er_n1_23 : PySem.W.subIn K (.ref C1) (.ref C23) = some false)
    (er_n1_24 : PySem.W.subIn K (.ref C1) (.ref C24) = some false)
    (er_n1_25 : PySem.W.subIn K (.ref C1) (.ref C25) = some false)
    (er_n1_26 : PySem.W.subIn K (.ref C1) (.ref C26) = some false)
    (er_n1_27 : PySem.W.subIn K (.ref C1) (.ref C27) = some false)
    (er_hg1 : PySem.W.findIn K (.ref C1) "__getattribute__" = some (some (.builtin "BaseException.__getattribute__")))
    (er_hk1 : PySem.W.findIn K (.ref C1) "__getattr__" = some none)
    (er_hd1 : PySem.W.hasDictIn K C1 = true)
    (er_ha1 : PySem.W.findIn K (.ref C1) "__class__" = some (some (.builtin "object.__class__")))
    (er_hm1 : PySem.W.mroIn K C1 (.type "object") = some true)
    (hnX : PySem.W.specialIn K (.builtin "object.__class__") "__get__" = some (some (.builtin "getset_descriptor.__get__")))
    (htX : PySem.W.takesIn K (.builtin "object.__class__") = some true)
    (eL0 : cdd38 = .ref cL0)
    (lL0 : K.lookup cL0 = some ⟨ocL0, odL0, .fields vsL0, slL0⟩)
    (pL0 : (vsL0[11]? : Option Value) = some (.ref PL0))
    (tL0 : PySem.W.tabIn K "_law_none" = some (cL0, PL0))
    (oL0 : K.lookup PL0 = none)
    (rL0 : ∃ d, (recsOf q).find? (fun e => e.name == ("_law_none" : Str)) = some d) :
    ∃ (cs : List (Addr × Addr)) (fd : FuncData), (∀ p ∈ cs, ∃ y, LamDef q K y p.1 p.2) ∧ (∀ (s : Shared) (v : Value), BindsTo s fd ⟨[v], []⟩ [("_law_script", v)]) ∧ ∀ base : Heap, K.In base → base.Ns mainGlobals mg → (∀ p ∈ cs, LamX.TabB base mg p.1 p.2) → FnG l.prog w K mg base 22 fa fd ["_law_script"] (spT cs K) := by
  have e := hfa.symm.trans (PySem.W.mg_of X G ad39)
  cases e
  have y_isinstance := PySem.W.mg_none_of X G z_isinstance
  have y_int := PySem.W.mg_none_of X G z_int
  have y_bool := PySem.W.mg_none_of X G z_bool
  have y_tuple := PySem.W.mg_none_of X G z_tuple
  have y_len := PySem.W.mg_none_of X G z_len
  have y_all := PySem.W.mg_none_of X G z_all
  have y_any := PySem.W.mg_none_of X G z_any
  have y_zip := PySem.W.mg_none_of X G z_zip
  have y_range := PySem.W.mg_none_of X G z_range
  have y_max := PySem.W.mg_none_of X G z_max
  have y_min := PySem.W.mg_none_of X G z_min
  have y_list := PySem.W.mg_none_of X G z_list
  have y_str := PySem.W.mg_none_of X G z_str
  have y_repr := PySem.W.mg_none_of X G z_repr
  have y_ValueError := PySem.W.mg_none_of X G z_ValueError
  have Fd0 := fun_mk (st := s_is_int) ld0 cd0 kd0
  have bd0 := Fd0.binds (ps := ["thing"]) fun _ _ _ _ _ _ us hl => match us, hl with | [_], _ => rfl
  have vd0 := PySem.W.mg_of X G ad0
  have Fd1 := fun_mk (st := s_is_between) ld1 cd1 kd1
  have bd1 := Fd1.binds (ps := ["thing", "least", "most"]) fun _ _ _ _ _ _ us hl => match us, hl with | [_, _, _], _ => rfl
  have vd1 := PySem.W.mg_of X G ad1
  have Fd2 := fun_mk (st := s_is_work) ld2 cd2 kd2
  have bd2 := Fd2.binds (ps := ["thing"]) fun _ _ _ _ _ _ us hl => match us, hl with | [_], _ => rfl
  have vd2 := PySem.W.mg_of X G ad2
  have Fd3 := fun_mk (st := s_bars) ld3 cd3 kd3
  have bd3 := Fd3.binds (ps := ["one", "other"]) fun _ _ _ _ _ _ us hl => match us, hl with | [_, _], _ => rfl
  have vd3 := PySem.W.mg_of X G ad3
  have Fd4 := fun_mk (st := s_require_work) ld4 cd4 kd4
  have bd4 := Fd4.binds (ps := ["thing"]) fun _ _ _ _ _ _ us hl => match us, hl with | [_], _ => rfl
  have vd4 := PySem.W.mg_of X G ad4
  have Fd5 := fun_mk (st := s_clashes_behind) ld5 cd5 kd5
  have bd5 := Fd5.binds (ps := ["one", "other", "distance"]) fun _ _ _ _ _ _ us hl => match us, hl with | [_, _, _], _ => rfl
  have vd5 := PySem.W.mg_of X G ad5
  have Fd6 := fun_mk (st := s_is_kind) ld6 cd6 kd6
  have bd6 := Fd6.binds (ps := ["line", "thing"]) fun _ _ _ _ _ _ us hl => match us, hl with | [_, _], _ => rfl
  have vd6 := PySem.W.mg_of X G ad6
  have Fd7 := fun_mk (st := s_require_kind) ld7 cd7 kd7
  have bd7 := Fd7.binds (ps := ["line", "thing"]) fun _ _ _ _ _ _ us hl => match us, hl with | [_, _], _ => rfl
  have vd7 := PySem.W.mg_of X G ad7
  have Fd8 := fun_mk (st := s_bars_of_all) ld8 cd8 kd8
  have bd8 := Fd8.binds (ps := ["works"]) fun _ _ _ _ _ _ us hl => match us, hl with | [_], _ => rfl
  have vd8 := PySem.W.mg_of X G ad8
  have Fd9 := fun_mk (st := s_require_line) ld9 cd9 kd9
  have bd9 := Fd9.binds (ps := ["thing"]) fun _ _ _ _ _ _ us hl => match us, hl with | [_], _ => rfl
  have vd9 := PySem.W.mg_of X G ad9
  have Fd10 := fun_mk (st := s_is_plan) ld10 cd10 kd10
  have bd10 := Fd10.binds (ps := ["line", "thing"]) fun _ _ _ _ _ _ us hl => match us, hl with | [_, _], _ => rfl
  have vd10 := PySem.W.mg_of X G ad10
  have Fd11 := fun_mk (st := s_require_plan) ld11 cd11 kd11
  have bd11 := Fd11.binds (ps := ["line", "thing"]) fun _ _ _ _ _ _ us hl => match us, hl with | [_, _], _ => rfl
  have vd11 := PySem.W.mg_of X G ad11
  have Fd12 := fun_mk (st := s_is_start) ld12 cd12 kd12
  have bd12 := Fd12.binds (ps := ["line", "thing", "least"]) fun _ _ _ _ _ _ us hl => match us, hl with | [_, _, _], _ => rfl
  have vd12 := PySem.W.mg_of X G ad12
  have Fd13 := fun_mk (st := s_is_lap) ld13 cd13 kd13
  have bd13 := Fd13.binds (ps := ["line", "thing"]) fun _ _ _ _ _ _ us hl => match us, hl with | [_, _], _ => rfl
  have vd13 := PySem.W.mg_of X G ad13
  have Fd14 := fun_mk (st := s_require_lap) ld14 cd14 kd14
  have bd14 := Fd14.binds (ps := ["line", "thing"]) fun _ _ _ _ _ _ us hl => match us, hl with | [_, _], _ => rfl
  have vd14 := PySem.W.mg_of X G ad14
  have Fd15 := fun_mk (st := s_work_text) ld15 cd15 kd15
  have bd15 := Fd15.binds (ps := ["work"]) fun _ _ _ _ _ _ us hl => match us, hl with | [_], _ => rfl
  have vd15 := PySem.W.mg_of X G ad15
  have Fd16 := fun_mk (st := s_lap_text) ld16 cd16 kd16
  have bd16 := Fd16.binds (ps := ["line", "lap"]) fun _ _ _ _ _ _ us hl => match us, hl with | [_, _], _ => rfl
  have vd16 := PySem.W.mg_of X G ad16
  have Fd17 := fun_mk (st := s_line_text) ld17 cd17 kd17
  have bd17 := Fd17.binds (ps := ["line"]) fun _ _ _ _ _ _ us hl => match us, hl with | [_], _ => rfl
  have vd17 := PySem.W.mg_of X G ad17
  have Fd18 := fun_mk (st := s_plan_text) ld18 cd18 kd18
  have bd18 := Fd18.binds (ps := ["line", "plan"]) fun _ _ _ _ _ _ us hl => match us, hl with | [_, _], _ => rfl
  have vd18 := PySem.W.mg_of X G ad18
  have Fd19 := fun_mk (st := s_read_work) ld19 cd19 kd19
  have bd19 := Fd19.binds (ps := ["text"]) fun _ _ _ _ _ _ us hl => match us, hl with | [_], _ => rfl
  have vd19 := PySem.W.mg_of X G ad19
  have Fd20 := fun_mk (st := s_read_lap) ld20 cd20 kd20
  have bd20 := Fd20.binds (ps := ["text"]) fun _ _ _ _ _ _ us hl => match us, hl with | [_], _ => rfl
  have vd20 := PySem.W.mg_of X G ad20
  have Fd21 := fun_mk (st := s_read_line) ld21 cd21 kd21
  have bd21 := Fd21.binds (ps := ["text"]) fun _ _ _ _ _ _ us hl => match us, hl with | [_], _ => rfl
  have vd21 := PySem.W.mg_of X G ad21
  have Fd22 := fun_mk (st := s_read_plan) ld22 cd22 kd22
  have bd22 := Fd22.binds (ps := ["text"]) fun _ _ _ _ _ _ us hl => match us, hl with | [_], _ => rfl
  have vd22 := PySem.W.mg_of X G ad22
  have Fd23 := fun_mk (st := s_require_text) ld23 cd23 kd23
  have bd23 := Fd23.binds (ps := ["thing"]) fun _ _ _ _ _ _ us hl => match us, hl with | [_], _ => rfl
  have vd23 := PySem.W.mg_of X G ad23
  have Fd24 := fun_mk (st := s_items_text) ld24 cd24 kd24
  have bd24 := Fd24.binds (ps := ["items"]) fun _ _ _ _ _ _ us hl => match us, hl with | [_], _ => rfl
  have vd24 := PySem.W.mg_of X G ad24
  have Fd25 := fun_mk (st := s_greatest_line) ld25 cd25 kd25
  have bd25 := Fd25.binds (ps := []) fun _ _ _ _ _ _ us hl => match us, hl with | [], _ => rfl
  have vd25 := PySem.W.mg_of X G ad25
  have Fd26 := fun_mk (st := s_read_work_in) ld26 cd26 kd26
  have bd26 := Fd26.binds (ps := ["text"]) fun _ _ _ _ _ _ us hl => match us, hl with | [_], _ => rfl
  have vd26 := PySem.W.mg_of X G ad26
  have Fd27 := fun_mk (st := s_read_items) ld27 cd27 kd27
  have bd27 := Fd27.binds (ps := ["text"]) fun _ _ _ _ _ _ us hl => match us, hl with | [_], _ => rfl
  have vd27 := PySem.W.mg_of X G ad27
  have Fd28 := fun_mk (st := s_read_start) ld28 cd28 kd28
  have bd28 := Fd28.binds (ps := ["text"]) fun _ _ _ _ _ _ us hl => match us, hl with | [_], _ => rfl
  have vd28 := PySem.W.mg_of X G ad28
  have Fd29 := fun_mk (st := s_read_number) ld29 cd29 kd29
  have bd29 := Fd29.binds (ps := ["text"]) fun _ _ _ _ _ _ us hl => match us, hl with | [_], _ => rfl
  have vd29 := PySem.W.mg_of X G ad29
  have Fd30 := fun_mk (st := s_l_cell) ld30 cd30 kd30
  have bd30 := Fd30.binds (ps := ["_law_script", "_law_k"]) fun _ _ _ _ _ _ us hl => match us, hl with | [_, _], _ => rfl
  have vd30 := PySem.W.mg_of X G ad30
  have Fd31 := fun_mk (st := s_l_pen) ld31 cd31 kd31
  have bd31 := Fd31.binds (ps := ["_law_cell_here"]) fun _ _ _ _ _ _ us hl => match us, hl with | [_], _ => rfl
  have vd31 := PySem.W.mg_of X G ad31
  have Fd32 := fun_mk (st := s_l_draw) ld32 cd32 kd32
  have bd32 := Fd32.binds (ps := ["_law_pen_here", "_law_many"]) fun _ _ _ _ _ _ us hl => match us, hl with | [_, _], _ => rfl
  have vd32 := PySem.W.mg_of X G ad32
  have Fd33 := fun_mk (st := s_l_mixed) ld33 cd33 kd33
  have bd33 := Fd33.binds (ps := ["_law_pen_here", "_law_values"]) fun _ _ _ _ _ _ us hl => match us, hl with | [_, _], _ => rfl
  have vd33 := PySem.W.mg_of X G ad33
  have Fd34 := fun_mk (st := s_l_same) ld34 cd34 kd34
  have bd34 := Fd34.binds (ps := ["_law_actual", "_law_due"]) fun _ _ _ _ _ _ us hl => match us, hl with | [_, _], _ => rfl
  have vd34 := PySem.W.mg_of X G ad34
  have Fd35 := fun_mk (st := s_l_word) ld35 cd35 kd35
  have bd35 := Fd35.binds (ps := ["_law_e"]) fun _ _ _ _ _ _ us hl => match us, hl with | [_], _ => rfl
  have vd35 := PySem.W.mg_of X G ad35
  have Fd36 := fun_mk (st := s_l_said) ld36 cd36 kd36
  have bd36 := Fd36.binds (ps := ["_law_call"]) fun _ _ _ _ _ _ us hl => match us, hl with | [_], _ => rfl
  have vd36 := PySem.W.mg_of X G ad36
  have Fd37 := fun_mk (st := s_l_right) ld37 cd37 kd37
  have bd37 := Fd37.binds (ps := ["_law_a", "_law_b"]) fun _ _ _ _ _ _ us hl => match us, hl with | [_, _], _ => rfl
  have vd37 := PySem.W.mg_of X G ad37
  have Fd38 := fun_mk (st := s_l_none) ld38 cd38 kd38
  have bd38 := Fd38.binds (ps := ["_law_a", "_law_b"]) fun _ _ _ _ _ _ us hl => match us, hl with | [_, _], _ => rfl
  have vd38 := PySem.W.mg_of X G ad38
  have Fd39 := fun_mk (st := s_law) ld39 cd39 kd39
  have bd39 := Fd39.binds (ps := ["_law_script"]) fun _ _ _ _ _ _ us hl => match us, hl with | [_], _ => rfl
  have vd39 := PySem.W.mg_of X G ad39
  have Fm0 := fun_mk (st := s_Line_init) lm0 cm0 km0
  have Fm1 := fun_mk (st := s_Line_len) lm1 cm1 km1
  have bm1 := Fm1.binds (ps := ["self"]) fun _ _ _ _ _ _ us hl => match us, hl with | [_], _ => rfl
  have Fm2 := fun_mk (st := s_Line_call) lm2 cm2 km2
  have bm2 := Fm2.binds (ps := ["self", "one", "other"]) fun _ _ _ _ _ _ us hl => match us, hl with | [_, _, _], _ => rfl
  have Fm3 := fun_mk (st := s_Line_add) lm3 cm3 km3
  have bm3 := Fm3.binds (ps := ["self", "other"]) fun _ _ _ _ _ _ us hl => match us, hl with | [_, _], _ => rfl
  have Fm4 := fun_mk (st := s_Line_sub) lm4 cm4 km4
  have bm4 := Fm4.binds (ps := ["self", "other"]) fun _ _ _ _ _ _ us hl => match us, hl with | [_, _], _ => rfl
  have Fm5 := fun_mk (st := s_Line_neg) lm5 cm5 km5
  have bm5 := Fm5.binds (ps := ["self"]) fun _ _ _ _ _ _ us hl => match us, hl with | [_], _ => rfl
  have Fm6 := fun_mk (st := s_Line_eq) lm6 cm6 km6
  have bm6 := Fm6.binds (ps := ["self", "other"]) fun _ _ _ _ _ _ us hl => match us, hl with | [_, _], _ => rfl
  have Fm7 := fun_mk (st := s_Line_getitem) lm7 cm7 km7
  have bm7 := Fm7.binds (ps := ["self", "at"]) fun _ _ _ _ _ _ us hl => match us, hl with | [_, _], _ => rfl
  have Fm8 := fun_mk (st := s_Line_repr) lm8 cm8 km8
  have bm8 := Fm8.binds (ps := ["self"]) fun _ _ _ _ _ _ us hl => match us, hl with | [_], _ => rfl
  have Fp0 := fun_mk (st := s_Line_works) lp0 cp0 kp0
  have bp0 := Fp0.binds (ps := ["self"]) fun _ _ _ _ _ _ us hl => match us, hl with | [_], _ => rfl
  have N_NOWHERE : ∃ t, mg "NOWHERE" = some (.int (-1) t) := ⟨_, PySem.W.mg_of X G u_NOWHERE⟩
  have N_STATIONS : ∃ t, mg "STATIONS" = some (.int (10) t) := ⟨_, PySem.W.mg_of X G u_STATIONS⟩
  have N_MOST_ITEMS : ∃ t, mg "MOST_ITEMS" = some (.int (60) t) := ⟨_, PySem.W.mg_of X G u_MOST_ITEMS⟩
  have N_MOST_WORKS : ∃ t, mg "MOST_WORKS" = some (.int (3) t) := ⟨_, PySem.W.mg_of X G u_MOST_WORKS⟩
  have N_MOST_STARTS : ∃ t, mg "MOST_STARTS" = some (.int (60) t) := ⟨_, PySem.W.mg_of X G u_MOST_STARTS⟩
  have N_NOTHING : ∃ t, mg "NOTHING" = some (.int (-1) t) := ⟨_, PySem.W.mg_of X G u_NOTHING⟩
  have S_NONE : ∃ t, mg "NONE" = some (.str ("none" : Str) t) := ⟨_, PySem.W.mg_of X G w_NONE⟩
  have S_DIGITS : ∃ t, mg "DIGITS" = some (.str ("0123456789" : Str) t) := ⟨_, PySem.W.mg_of X G w_DIGITS⟩
  have cl : Cls K C := ⟨pg, hd, po, sa⟩
  have T : LC K mg C := ⟨cl, nW, nB, nR, PySem.W.mg_of X G aC⟩
  have kit : PySem.W.kitOne K (.ref C) (.ref C) = some true := by unfold PySem.W.kitOne; simp
  have I : LI K C := ⟨ha, hn, ht, hm, kit⟩
  have O : Ops K C := ⟨sf, ⟨none, rs, .inl rfl⟩, ⟨_, is1⟩, ⟨_, ir1⟩, nsub, ne, ob⟩
  have Mi : Mk K C fm0 := ⟨mk, am0, im0, kc⟩
  let Cf : Nat → Addr := fun i => [C0, C1, C2, C3, C4, C5, C6, C7, C8, C9, C10, C11, C12, C13, C14, C15, C16, C17, C18, C19, C20, C21, C22, C23, C24, C25, C26, C27].getD i 0
  have kn : ∀ i, i < 28 → mg (kNames.getD i "") = some (.ref (Cf i)) := fun i hi => by
    match i, hi with
    | 0, _ => exact PySem.W.mg_of X G aC0
    | 1, _ => exact PySem.W.mg_of X G aC1
    | 2, _ => exact PySem.W.mg_of X G aC2
    | 3, _ => exact PySem.W.mg_of X G aC3
    | 4, _ => exact PySem.W.mg_of X G aC4
    | 5, _ => exact PySem.W.mg_of X G aC5
    | 6, _ => exact PySem.W.mg_of X G aC6
    | 7, _ => exact PySem.W.mg_of X G aC7
    | 8, _ => exact PySem.W.mg_of X G aC8
    | 9, _ => exact PySem.W.mg_of X G aC9
    | 10, _ => exact PySem.W.mg_of X G aC10
    | 11, _ => exact PySem.W.mg_of X G aC11
    | 12, _ => exact PySem.W.mg_of X G aC12
    | 13, _ => exact PySem.W.mg_of X G aC13
    | 14, _ => exact PySem.W.mg_of X G aC14
    | 15, _ => exact PySem.W.mg_of X G aC15
    | 16, _ => exact PySem.W.mg_of X G aC16
    | 17, _ => exact PySem.W.mg_of X G aC17
    | 18, _ => exact PySem.W.mg_of X G aC18
    | 19, _ => exact PySem.W.mg_of X G aC19
    | 20, _ => exact PySem.W.mg_of X G aC20
    | 21, _ => exact PySem.W.mg_of X G aC21
    | 22, _ => exact PySem.W.mg_of X G aC22
    | 23, _ => exact PySem.W.mg_of X G aC23
    | 24, _ => exact PySem.W.mg_of X G aC24
    | 25, _ => exact PySem.W.mg_of X G aC25
    | 26, _ => exact PySem.W.mg_of X G aC26
    | 27, _ => exact PySem.W.mg_of X G aC27
    | n + 28, z => exact absurd z (by omega)
  have Er21 : Err K mg "NoText" C21 := ⟨PySem.W.mg_of X G aC21, er_x21, er_k21, er_b21, tC21⟩
  have KO21 : KindOk K Cf C21 21 := ⟨by decide, ⟨er_hg21, er_hk21, er_b21, er_hd21, er_ha21, hnX, htX, er_hm21⟩, fun i hi => by
    match i, hi with
    | 0, _ => exact kit_no er_s21 iC0 tC0 er_n21_0
    | 1, _ => exact kit_no er_s21 iC1 tC1 er_n21_1
    | 2, _ => exact kit_no er_s21 iC2 tC2 er_n21_2
    | 3, _ => exact kit_no er_s21 iC3 tC3 er_n21_3
    | 4, _ => exact kit_no er_s21 iC4 tC4 er_n21_4
    | 5, _ => exact kit_no er_s21 iC5 tC5 er_n21_5
    | 6, _ => exact kit_no er_s21 iC6 tC6 er_n21_6
    | 7, _ => exact kit_no er_s21 iC7 tC7 er_n21_7
    | 8, _ => exact kit_no er_s21 iC8 tC8 er_n21_8
    | 9, _ => exact kit_no er_s21 iC9 tC9 er_n21_9
    | 10, _ => exact kit_no er_s21 iC10 tC10 er_n21_10
    | 11, _ => exact kit_no er_s21 iC11 tC11 er_n21_11
    | 12, _ => exact kit_no er_s21 iC12 tC12 er_n21_12
    | 13, _ => exact kit_no er_s21 iC13 tC13 er_n21_13
    | 14, _ => exact kit_no er_s21 iC14 tC14 er_n21_14
    | 15, _ => exact kit_no er_s21 iC15 tC15 er_n21_15
    | 16, _ => exact kit_no er_s21 iC16 tC16 er_n21_16
    | 17, _ => exact kit_no er_s21 iC17 tC17 er_n21_17
    | 18, _ => exact kit_no er_s21 iC18 tC18 er_n21_18
    | 19, _ => exact kit_no er_s21 iC19 tC19 er_n21_19
    | 20, _ => exact kit_no er_s21 iC20 tC20 er_n21_20
    | 21, _ => exact kit_self
    | 22, _ => exact kit_no er_s21 iC22 tC22 er_n21_22
    | 23, _ => exact kit_no er_s21 iC23 tC23 er_n21_23
    | 24, _ => exact kit_no er_s21 iC24 tC24 er_n21_24
    | 25, _ => exact kit_no er_s21 iC25 tC25 er_n21_25
    | 26, _ => exact kit_no er_s21 iC26 tC26 er_n21_26
    | 27, _ => exact kit_no er_s21 iC27 tC27 er_n21_27
    | n + 28, z => exact absurd z (by omega), kit_val er_v21⟩
  have ex21 : PySem.W.exmOne K (.ref C21) (.ref Gp) = some true := exm_sub bGp iGp tGp er_g21
  have Er1 : Err K mg "NoLine" C1 := ⟨PySem.W.mg_of X G aC1, er_x1, er_k1, er_b1, tC1⟩
  have KO1 : KindOk K Cf C1 1 := ⟨by decide, ⟨er_hg1, er_hk1, er_b1, er_hd1, er_ha1, hnX, htX, er_hm1⟩, fun i hi => by
    match i, hi with
    | 0, _ => exact kit_no er_s1 iC0 tC0 er_n1_0
    | 1, _ => exact kit_self
    | 2, _ => exact kit_no er_s1 iC2 tC2 er_n1_2
    | 3, _ => exact kit_no er_s1 iC3 tC3 er_n1_3
    | 4, _ => exact kit_no er_s1 iC4 tC4 er_n1_4
    | 5, _ => exact kit_no er_s1 iC5 tC5 er_n1_5
    | 6, _ => exact kit_no er_s1 iC6 tC6 er_n1_6
    | 7, _ => exact kit_no er_s1 iC7 tC7 er_n1_7
    | 8, _ => exact kit_no er_s1 iC8 tC8 er_n1_8
    | 9, _ => exact kit_no er_s1 iC9 tC9 er_n1_9
    | 10, _ => exact kit_no er_s1 iC10 tC10 er_n1_10
    | 11, _ => exact kit_no er_s1 iC11 tC11 er_n1_11
    | 12, _ => exact kit_no er_s1 iC12 tC12 er_n1_12
    | 13, _ => exact kit_no er_s1 iC13 tC13 er_n1_13
    | 14, _ => exact kit_no er_s1 iC14 tC14 er_n1_14
    | 15, _ => exact kit_no er_s1 iC15 tC15 er_n1_15
    | 16, _ => exact kit_no er_s1 iC16 tC16 er_n1_16
    | 17, _ => exact kit_no er_s1 iC17 tC17 er_n1_17
    | 18, _ => exact kit_no er_s1 iC18 tC18 er_n1_18
    | 19, _ => exact kit_no er_s1 iC19 tC19 er_n1_19
    | 20, _ => exact kit_no er_s1 iC20 tC20 er_n1_20
    | 21, _ => exact kit_no er_s1 iC21 tC21 er_n1_21
    | 22, _ => exact kit_no er_s1 iC22 tC22 er_n1_22
    | 23, _ => exact kit_no er_s1 iC23 tC23 er_n1_23
    | 24, _ => exact kit_no er_s1 iC24 tC24 er_n1_24
    | 25, _ => exact kit_no er_s1 iC25 tC25 er_n1_25
    | 26, _ => exact kit_no er_s1 iC26 tC26 er_n1_26
    | 27, _ => exact kit_no er_s1 iC27 tC27 er_n1_27
    | n + 28, z => exact absurd z (by omega), kit_val er_v1⟩
  have ex1 : PySem.W.exmOne K (.ref C1) (.ref Gp) = some true := exm_sub bGp iGp tGp er_g1
  have vGp := PySem.W.mg_of X G aGp
  have LD0 : LamDef q K "_law_none" cL0 PL0 := ⟨rL0, tL0, oL0⟩
  have mem : ∀ p ∈ [(cL0, PL0)], ∃ y, LamDef q K y p.1 p.2 := fun p hp => by
    rcases List.mem_cons.mp hp with rfl | hp
    · exact ⟨_, LD0⟩
    exact nomatch hp
  refine ⟨[(cL0, PL0)], PySem.W.fnOf "law" "law" (defArgs s_law) (defBody s_law) (defScope s_law) .none kVd39 dcd39 pmd39 and39 cdd39 ctd39, mem, fun s v => .of_eq rfl, fun base _ _ TBs => ?_⟩
  have TB0 : LamX.TabB base mg cL0 PL0 := TBs (cL0, PL0) (by simp)
  have Gd0 := ok_is_int (P := l.prog) (w := w) (mg := mg) (base := base) (k := 0) Fd0 y_isinstance y_int y_bool
  have Gd1 := ok_is_between (P := l.prog) (w := w) (mg := mg) (base := base) (k := 1) Fd1 (Gd0.mono (by decide)) kd0 bd0 vd0
  have N : Nums mg := ⟨N_NOWHERE, N_STATIONS, N_MOST_ITEMS⟩
  have Gd2 := ok_is_work (P := l.prog) (w := w) (mg := mg) (base := base) (k := 2) Fd2 N (Gd1.mono (by decide)) kd1 bd1 vd1 y_isinstance y_tuple y_len y_all
  have Gd4 := ok_require_work (P := l.prog) (w := w) (mg := mg) (base := base) (k := 3) Fd4 (Gd2.mono (by decide)) kd2 bd2 vd2
  have Gd5 := ok_clashes_behind (P := l.prog) (w := w) (mg := mg) (base := base) (k := 3) Fd5 N y_any y_zip
  have Gd3 := ok_bars (P := l.prog) (w := w) (mg := mg) (base := base) (k := 4) Fd3 Gd4 kd4 bd4 vd4 Gd5 kd5 bd5 vd5 y_tuple y_range y_len
  have Gd8 := ok_bars_of_all (P := l.prog) (w := w) (mg := mg) (base := base) (k := 5) Fd8 y_tuple Gd3 kd3 bd3 vd3
  have Gi := ok_init (P := l.prog) (w := w) (mg := mg) (base := base) (k := 6) Fm0 T N_MOST_WORKS (Gd2.mono (by decide)) kd2 bd2 vd2 Gd8 kd8 bd8 vd8 y_all y_len y_max
  have Glen := ok_len (P := l.prog) (w := w) (mg := mg) (base := base) (k := 1) Fm1 T y_len
  have Gd6 := ok_is_kind (P := l.prog) (w := w) (mg := mg) (base := base) (k := 2) Fd6 T y_len Gd1 kd1 bd1 vd1 Glen bm1 am1 im1
  have Gd7 := ok_require_kind (P := l.prog) (w := w) (mg := mg) (base := base) (k := 4) Fd7 Gd6 kd6 bd6 vd6
  have Gcall := ok_call (P := l.prog) (w := w) (mg := mg) (base := base) (k := 5) Fm2 T Gd7 kd7 bd7 vd7
  have Gadd := ok_add (P := l.prog) (w := w) (mg := mg) (base := base) (k := 7) Fm3 T I Mi Gi y_isinstance
  have Gsub := ok_sub (P := l.prog) (w := w) (mg := mg) (base := base) (k := 7) Fm4 T Mi Gi (Gd7.mono (by decide)) kd7 bd7 vd7 y_len
  have Gneg := ok_neg (P := l.prog) (w := w) (mg := mg) (base := base) (k := 7) Fm5 T Mi Gi
  have Geq := ok_eq (P := l.prog) (w := w) (mg := mg) (base := base) (k := 0) Fm6 T I y_isinstance
  have Gw := fn_getter (CX := CX0) (P := l.prog) (w := w) (mg := mg) (base := base) (k := 0) lp0 cp0 sc_Line_works rfl rfl cl nW
  have M : Meths l.prog w K mg base 10 C := ⟨T, I, O, ⟨_, _, Glen.mono (by decide), bm1, am1, im1⟩, ⟨_, _, ⟨Gcall.mono (by decide), bm2, am2, im2⟩, fi⟩, ⟨_, _, Gadd.mono (by decide), bm3, am3, im3⟩, ⟨_, _, Gsub.mono (by decide), bm4, am4, im4⟩, ⟨_, _, Gneg.mono (by decide), bm5, am5, im5⟩, ⟨_, _, Geq.mono (by decide), bm6, am6, im6⟩, ⟨_, _, _, ⟨ap0, gp0, tp0, _, rp0⟩, Gw.mono (by decide), bp0⟩, ⟨_, Mi, Gi.mono (by decide)⟩⟩
  have Gitem := ok_item (P := l.prog) (w := w) (mg := mg) (base := base) (k := 5) Fm7 T Gd7 kd7 bd7 vd7
  have Grepr := ok_repr (P := l.prog) (w := w) (mg := mg) (base := base) (k := 0) Fm8 T y_len
  have M2 : Meths2 l.prog w K mg base 10 C := ⟨M, ⟨_, _, ⟨Gitem.mono (by decide), bm7, am7, im7⟩, fg⟩, ⟨_, _, Grepr.mono (by decide), bm8, am8, im8⟩⟩
  have NI : NoInst K C := noInst_by (kit_tno iCl tCl ns_NoneType) (kit_tno iCl tCl ns_bool) (kit_tno iCl tCl ns_int) (kit_tno iCl tCl ns_str) (kit_tno iCl tCl ns_list) (kit_tno iCl tCl ns_tuple) (kit_tno iCl tCl ns_dict)
  have LKI : LineKit K C := ⟨fun hL => isLine T.cl I hL, fun u hu => by
    simp only [List.mem_cons, List.not_mem_nil, or_false] at hu
    rcases hu with rfl | rfl | rfl | rfl | rfl
    · exact kit_ty_no (by decide +kernel) nt_tuple
    · exact kit_ty_no (by decide +kernel) nt_int
    · exact kit_ty_no (by decide +kernel) nt_bool
    · exact kit_ty_no (by decide +kernel) nt_str
    · exact kit_ty_no (by decide +kernel) nt_list⟩
  have GLi := ok_is_intL (P := l.prog) (w := w) (mg := mg) (base := base) (k := 0) LKI Fd0 y_isinstance y_int y_bool
  have GLb := ok_is_betweenL (P := l.prog) (w := w) (mg := mg) (base := base) (k := 1) Fd1 (GLi.mono (by decide)) kd0 bd0 vd0
  have GLw := ok_is_workL (P := l.prog) (w := w) (mg := mg) (base := base) (k := 2) LKI Fd2 N (GLb.mono (by decide)) kd1 bd1 vd1 y_isinstance y_tuple y_len y_all
  have GLrl := ok_require_lineA (P := l.prog) (w := w) (mg := mg) (base := base) (k := 0) Fd9 Er1 NI T I y_isinstance
  have GLk := ok_is_kindL (P := l.prog) (w := w) (mg := mg) (base := base) (k := 10) Fd6 M2 (GLb.mono (by decide)) kd1 bd1 vd1 y_len
  have GLs := ok_is_startL (P := l.prog) (w := w) (mg := mg) (base := base) (k := 13) LKI Fd12 (GLi.mono (by decide)) kd0 bd0 vd0 (GLk.mono (by decide)) kd6 bd6 vd6 y_isinstance y_tuple y_len
  have GLp := ok_is_planL (P := l.prog) (w := w) (mg := mg) (base := base) (k := 14) LKI Fd10 N_MOST_STARTS (GLrl.mono (by decide)) kd9 bd9 vd9 (GLs.mono (by decide)) kd12 bd12 vd12 y_isinstance y_tuple y_len
  have GRt := ok_require_textL (P := l.prog) (w := w) (mg := mg) (base := base) (k := 0) LKI Fd23 Er21 y_isinstance y_str
  have GRn := ok_read_numberT (P := l.prog) (w := w) (mg := mg) (base := base) (k := 0) Fd29 S_DIGITS y_all y_int
  have GRi := ok_read_itemsT (P := l.prog) (w := w) (mg := mg) (base := base) (k := 1) Fd27 N_NOWHERE (GRn.mono (by decide)) kd29 bd29 vd29 y_tuple
  have GRw := ok_read_work_inT (P := l.prog) (w := w) (mg := mg) (base := base) (k := 3) Fd26 Er21 (GRi.mono (by decide)) kd27 bd27 vd27 (GLw.mono (by decide)) kd2 bd2 vd2
  have GRs := ok_read_start (P := l.prog) (w := w) (mg := mg) (base := base) (k := 1) Fd28 (GRn.mono (by decide)) kd29 bd29 vd29 y_tuple
  have GGr := ok_greatest (P := l.prog) (w := w) (mg := mg) (base := base) (k := 7) Fd25 T Mi Gi N_MOST_WORKS
  have GRN := ok_read_lineT (P := l.prog) (w := w) (mg := mg) (base := base) (k := 7) Fd21 Er21 N_MOST_WORKS T Mi Gi (GRt.mono (by decide)) kd23 bd23 vd23 (GRw.mono (by decide)) kd26 bd26 vd26 y_len
  have GRP := ok_read_planT (P := l.prog) (w := w) (mg := mg) (base := base) (k := 15) Fd22 Er21 S_NONE (GRt.mono (by decide)) kd23 bd23 vd23 (GRs.mono (by decide)) kd28 bd28 vd28 (GGr.mono (by decide)) kd25 bd25 vd25 (GLp.mono (by decide)) kd10 bd10 vd10 y_tuple
  have GLl := ok_is_lapL (P := l.prog) (w := w) (mg := mg) (base := base) (k := 10) LKI Fd13 M2 N_NOTHING (GLb.mono (by decide)) kd1 bd1 vd1 y_isinstance y_tuple y_len y_all
  have GRW := ok_read_workT (P := l.prog) (w := w) (mg := mg) (base := base) (k := 4) Fd19 (GRt.mono (by decide)) kd23 bd23 vd23 (GRw.mono (by decide)) kd26 bd26 vd26
  have GRL := ok_read_lapT (P := l.prog) (w := w) (mg := mg) (base := base) (k := 13) Fd20 Er21 (GRt.mono (by decide)) kd23 bd23 vd23 (GRi.mono (by decide)) kd27 bd27 vd27 (GGr.mono (by decide)) kd25 bd25 vd25 (GLl.mono (by decide)) kd13 bd13 vd13
  have Gd24 := Wr.ok_items_text (P := l.prog) (w := w) (mg := mg) (base := base) (k := 0) Fd24 N_NOWHERE y_str
  have Gd15 := Wr.ok_work_text (P := l.prog) (w := w) (mg := mg) (base := base) (k := 4) Fd15 (Gd4.mono (by decide)) kd4 bd4 vd4 (Gd24.mono (by decide)) kd24 bd24 vd24
  have WRl0 := ok_require_line (P := l.prog) (w := w) (mg := mg) (base := base) (k := 0) Fd9 T I y_isinstance
  have WRl := Wr.ok_require_line (P := l.prog) (w := w) (mg := mg) (base := base) (k := 0) Fd9 T I y_isinstance
  have WLl := Wr.ok_is_lap (P := l.prog) (w := w) (mg := mg) (base := base) (k := 10) Fd13 M2 N_NOTHING (Gd1.mono (by decide)) kd1 bd1 vd1 y_isinstance y_tuple y_len y_all
  have WRp := Wr.ok_require_lap (P := l.prog) (w := w) (mg := mg) (base := base) (k := 13) Fd14 (WRl0.mono (by decide)) kd9 bd9 vd9 (WLl.mono (by decide)) kd13 bd13 vd13
  have Glap_text := Wr.ok_lap_text (P := l.prog) (w := w) (mg := mg) (base := base) (k := 14) Fd16 (WRp.mono (by decide)) kd14 bd14 vd14 (Gd24.mono (by decide)) kd24 bd24 vd24
  have Gline_text := Wr.ok_line_text (P := l.prog) (w := w) (mg := mg) (base := base) (k := 10) Fd17 M2 (WRl.mono (by decide)) kd9 bd9 vd9 (Gd24.mono (by decide)) kd24 bd24 vd24
  have WS := Wr.ok_is_start (P := l.prog) (w := w) (mg := mg) (base := base) (k := 4) Fd12 (Gd0.mono (by decide)) kd0 bd0 vd0 (Gd6.mono (by decide)) kd6 bd6 vd6 y_isinstance y_tuple y_len
  have WP := Wr.ok_is_plan (P := l.prog) (w := w) (mg := mg) (base := base) (k := 5) Fd10 N_MOST_STARTS (WRl.mono (by decide)) kd9 bd9 vd9 (WS.mono (by decide)) kd12 bd12 vd12 y_isinstance y_tuple y_len
  have WQ := Wr.ok_require_plan (P := l.prog) (w := w) (mg := mg) (base := base) (k := 6) Fd11 (WP.mono (by decide)) kd10 bd10 vd10
  have Gplan_text := Wr.ok_plan_text (P := l.prog) (w := w) (mg := mg) (base := base) (k := 7) Fd18 S_NONE (WQ.mono (by decide)) kd11 bd11 vd11
  have Gd30 := ok_l_cell (P := l.prog) (w := w) (mg := mg) (base := base) (k := 0) Fd30 y_len
  have Gd31 := ok_l_pen (P := l.prog) (w := w) (mg := mg) (base := base) (k := 0) Fd31 y_max
  have Gd32 := ok_l_draw (P := l.prog) (w := w) (mg := mg) (base := base) (k := 0) Fd32
  have Gd33 := ok_mixed (P := l.prog) (w := w) (mg := mg) (base := base) (k := 1) Fd33 (Gd32.mono (by decide)) kd32 bd32 vd32 y_list y_range y_len
  have Gd34 := ok_l_same (P := l.prog) (w := w) (mg := mg) (base := base) (k := 0) Fd34 y_repr
  have Gd35 := ok_l_word (P := l.prog) (w := w) (mg := mg) (base := base) (k := 0) Fd35 kn y_isinstance y_ValueError
  have SN : SaidOk K Cf Gp C21 21 "NoText" := ⟨KO21, rfl, by decide, ex21⟩
  let TT : List (Addr × Str) := [(PL0, lamQ "_law_none")]
  have hm0 : (PL0, lamQ "_law_none") ∈ TT := by simp [TT]
  have hu0 : ∀ p ∈ TT, p.1 = PL0 → p.2 = lamQ "_law_none" := fun p hp _ => by rw [List.mem_singleton.mp hp]
  have Gd37 := ok_right (P := l.prog) (w := w) (mg := mg) (base := base) (k := 17) (kM := 10) (j := 17) Fd37 T Mi (Gi.mono (by decide)) M2 (by decide) (by decide) (Gd15.mono (by decide)) kd15 bd15 vd15 (Gline_text.mono (by decide)) kd17 bd17 vd17 (Glap_text.mono (by decide)) kd16 bd16 vd16 (Gplan_text.mono (by decide)) kd18 bd18 vd18 ((FnOk.to0 GRN).mono (by decide)) kd21 bd21 vd21 ((FnOk.to0 GRW).mono (by decide)) kd19 bd19 vd19 (Gd34.mono (by decide)) kd34 bd34 vd34 y_str
  have Gd38 := ok_none (P := l.prog) (w := w) (mg := mg) (base := base) (k := 17) (C := Cf) (T := TT) Fd38 (tab_code ad38 ld38 tL0) TB0 hm0 hu0 Fd36 kd36 bd36 vd36 (Gd35.mono (by decide)) kd35 bd35 vd35 vGp y_repr SN (GRW.mono (by decide)) kd19 bd19 vd19 (GRL.mono (by decide)) kd20 bd20 vd20 (GRN.mono (by decide)) kd21 bd21 vd21 (GRP.mono (by decide)) kd22 bd22 vd22 y_str
  exact ok_law (P := l.prog) (w := w) (mg := mg) (base := base) (k := 21) (T := TT) Fd39 (Gd30.mono (by decide)) kd30 bd30 vd30 (Gd31.mono (by decide)) kd31 bd31 vd31 (Gd33.mono (by decide)) kd33 bd33 vd33 (Gd37.mono (by decide)) kd37 bd37 vd37 (Gd38.mono (by decide)) kd38 bd38 vd38 ((FnOk.to0 GRL).mono (by decide)) kd20 bd20 vd20 ((FnOk.to0 GRP).mono (by decide)) kd22 bd22 vd22 (Gd34.mono (by decide)) kd34 bd34 vd34 y_range y_len y_max y_min
end Sg
set_option Elab.async false
set_option linter.all false
local macro_rules | `(tactic| kernel_rfl) => `(tactic| (with_reducible refine Sg.carry ?ee _ _ ?cc; (case ee => kernel_rfl); (case cc => kernel_rfl)))
open PySem PySem.W PyProof.Rows
set_option maxRecDepth 100000 in
set_option maxHeartbeats 0 in
theorem PySem.Challenge.cw_startgaps_k62_texts_by_hand_holds : PySem.Challenge.rw_startgaps_k62_texts_by_hand.Holds := by
  w_on; o_law; k_headL; (case hw => w_witness2)
  k_fill
  refine Sg.walk_lawT (l := PySem.Challenge.rw_startgaps_k62_texts_by_hand) (k := 22) (x := "_law_script") (sp := Sg.spT) rfl rfl ⟨rfl, by decide, by decide⟩ (fun w h Y => PySem.W.kIn_of Y) ?F Sg.spT_end
  case F =>
    intro w mg fa h KX G hmg
    refine' Sg.all_mk KX G hmg ?ad0 ?ld0 ?cd0 ?kd0 ?ad1 ?ld1 ?cd1 ?kd1 ?ad2 ?ld2 ?cd2 ?kd2 ?ad3 ?ld3 ?cd3 ?kd3 ?ad4 ?ld4 ?cd4 ?kd4 ?ad5 ?ld5 ?cd5 ?kd5 ?ad6 ?ld6 ?cd6 ?kd6 ?ad7 ?ld7 ?cd7 ?kd7 ?ad8 ?ld8 ?cd8 ?kd8 ?ad9 ?ld9 ?cd9 ?kd9 ?ad10 ?ld10 ?cd10 ?kd10 ?ad11 ?ld11 ?cd11 ?kd11 ?ad12 ?ld12 ?cd12 ?kd12 ?ad13 ?ld13 ?cd13 ?kd13 ?ad14 ?ld14 ?cd14 ?kd14 ?ad15 ?ld15 ?cd15 ?kd15 ?ad16 ?ld16 ?cd16 ?kd16 ?ad17 ?ld17 ?cd17 ?kd17 ?ad18 ?ld18 ?cd18 ?kd18 ?ad19 ?ld19 ?cd19 ?kd19 ?ad20 ?ld20 ?cd20 ?kd20 ?ad21 ?ld21 ?cd21 ?kd21 ?ad22 ?ld22 ?cd22 ?kd22 ?ad23 ?ld23 ?cd23 ?kd23 ?ad24 ?ld24 ?cd24 ?kd24 ?ad25 ?ld25 ?cd25 ?kd25 ?ad26 ?ld26 ?cd26 ?kd26 ?ad27 ?ld27 ?cd27 ?kd27 ?ad28 ?ld28 ?cd28 ?kd28 ?ad29 ?ld29 ?cd29 ?kd29 ?ad30 ?ld30 ?cd30 ?kd30 ?ad31 ?ld31 ?cd31 ?kd31 ?ad32 ?ld32 ?cd32 ?kd32 ?ad33 ?ld33 ?cd33 ?kd33 ?ad34 ?ld34 ?cd34 ?kd34 ?ad35 ?ld35 ?cd35 ?kd35 ?ad36 ?ld36 ?cd36 ?kd36 ?ad37 ?ld37 ?cd37 ?kd37 ?ad38 ?ld38 ?cd38 ?kd38 ?ad39 ?ld39 ?cd39 ?kd39 ?aC ?am0 ?im0 ?lm0 ?cm0 ?km0 ?am1 ?im1 ?lm1 ?cm1 ?km1 ?am2 ?im2 ?lm2 ?cm2 ?km2 ?am3 ?im3 ?lm3 ?cm3 ?km3 ?am4 ?im4 ?lm4 ?cm4 ?km4 ?am5 ?im5 ?lm5 ?cm5 ?km5 ?am6 ?im6 ?lm6 ?cm6 ?km6 ?am7 ?im7 ?lm7 ?cm7 ?km7 ?am8 ?im8 ?lm8 ?cm8 ?km8 ?ap0 ?gp0 ?tp0 ?rp0 ?lp0 ?cp0 ?kp0 ?pg ?hd ?po ?sa ?mk ?kc ?nW ?nB ?nR ?ha ?hn ?ht ?hm ?sf ?rs ?is1 ?ir1 ?nsub ?ne ?ob ?fi ?fg ?iCl ?tCl ?ns_NoneType ?ns_bool ?ns_int ?ns_str ?ns_list ?ns_tuple ?ns_dict ?nt_tuple ?nt_int ?nt_bool ?nt_str ?nt_list ?z_isinstance ?z_int ?z_bool ?z_tuple ?z_len ?z_all ?z_any ?z_zip ?z_range ?z_max ?z_min ?z_list ?z_str ?z_repr ?z_ValueError ?u_NOWHERE ?u_STATIONS ?u_MOST_ITEMS ?u_MOST_WORKS ?u_MOST_STARTS ?u_NOTHING ?w_NONE ?w_DIGITS ?aC0 ?iC0 ?tC0 ?aC1 ?iC1 ?tC1 ?aC2 ?iC2 ?tC2 ?aC3 ?iC3 ?tC3 ?aC4 ?iC4 ?tC4 ?aC5 ?iC5 ?tC5 ?aC6 ?iC6 ?tC6 ?aC7 ?iC7 ?tC7 ?aC8 ?iC8 ?tC8 ?aC9 ?iC9 ?tC9 ?aC10 ?iC10 ?tC10 ?aC11 ?iC11 ?tC11 ?aC12 ?iC12 ?tC12 ?aC13 ?iC13 ?tC13 ?aC14 ?iC14 ?tC14 ?aC15 ?iC15 ?tC15 ?aC16 ?iC16 ?tC16 ?aC17 ?iC17 ?tC17 ?aC18 ?iC18 ?tC18 ?aC19 ?iC19 ?tC19 ?aC20 ?iC20 ?tC20 ?aC21 ?iC21 ?tC21 ?aC22 ?iC22 ?tC22 ?aC23 ?iC23 ?tC23 ?aC24 ?iC24 ?tC24 ?aC25 ?iC25 ?tC25 ?aC26 ?iC26 ?tC26 ?aC27 ?iC27 ?tC27 ?aGp ?iGp ?tGp ?bGp ?er_x21 ?er_k21 ?er_b21 ?er_v21 ?er_g21 ?er_s21 ?er_n21_0 ?er_n21_1 ?er_n21_2 ?er_n21_3 ?er_n21_4 ?er_n21_5 ?er_n21_6 ?er_n21_7 ?er_n21_8 ?er_n21_9 ?er_n21_10 ?er_n21_11 ?er_n21_12 ?er_n21_13 ?er_n21_14 ?er_n21_15 ?er_n21_16 ?er_n21_17 ?er_n21_18 ?er_n21_19 ?er_n21_20 ?er_n21_22 ?er_n21_23 ?er_n21_24 ?er_n21_25 ?er_n21_26 ?er_n21_27 ?er_hg21 ?er_hk21 ?er_hd21 ?er_ha21 ?er_hm21 ?er_x1 ?er_k1 ?er_b1 ?er_v1 ?er_g1 ?er_s1 ?er_n1_0 ?er_n1_2 ?er_n1_3 ?er_n1_4 ?er_n1_5 ?er_n1_6 ?er_n1_7 ?er_n1_8 ?er_n1_9 ?er_n1_10 ?er_n1_11 ?er_n1_12 ?er_n1_13 ?er_n1_14 ?er_n1_15 ?er_n1_16 ?er_n1_17 ?er_n1_18 ?er_n1_19 ?er_n1_20 ?er_n1_21 ?er_n1_22 ?er_n1_23 ?er_n1_24 ?er_n1_25 ?er_n1_26 ?er_n1_27 ?er_hg1 ?er_hk1 ?er_hd1 ?er_ha1 ?er_hm1 ?hnX ?htX ?eL0 ?lL0 ?pL0 ?tL0 ?oL0 ?rL0
    (case ad0 => as_aux_lemma => k_is)
    (case ld0 => as_aux_lemma => k_is)
    (case cd0 => as_aux_lemma => k_is)
    (case kd0 => as_aux_lemma => k_is)
    (case ad1 => as_aux_lemma => k_is)
    (case ld1 => as_aux_lemma => k_is)
    (case cd1 => as_aux_lemma => k_is)
    (case kd1 => as_aux_lemma => k_is)
    (case ad2 => as_aux_lemma => k_is)
    (case ld2 => as_aux_lemma => k_is)
    (case cd2 => as_aux_lemma => k_is)
    (case kd2 => as_aux_lemma => k_is)
    (case ad3 => as_aux_lemma => k_is)
    (case ld3 => as_aux_lemma => k_is)
    (case cd3 => as_aux_lemma => k_is)
    (case kd3 => as_aux_lemma => k_is)
    (case ad4 => as_aux_lemma => k_is)
    (case ld4 => as_aux_lemma => k_is)
    (case cd4 => as_aux_lemma => k_is)
    (case kd4 => as_aux_lemma => k_is)
    (case ad5 => as_aux_lemma => k_is)
    (case ld5 => as_aux_lemma => k_is)
    (case cd5 => as_aux_lemma => k_is)
    (case kd5 => as_aux_lemma => k_is)
    (case ad6 => as_aux_lemma => k_is)
    (case ld6 => as_aux_lemma => k_is)
    (case cd6 => as_aux_lemma => k_is)
    (case kd6 => as_aux_lemma => k_is)
    (case ad7 => as_aux_lemma => k_is)
    (case ld7 => as_aux_lemma => k_is)
    (case cd7 => as_aux_lemma => k_is)
    (case kd7 => as_aux_lemma => k_is)
    (case ad8 => as_aux_lemma => k_is)
    (case ld8 => as_aux_lemma => k_is)
    (case cd8 => as_aux_lemma => k_is)
    (case kd8 => as_aux_lemma => k_is)
    (case ad9 => as_aux_lemma => k_is)
    (case ld9 => as_aux_lemma => k_is)
    (case cd9 => as_aux_lemma => k_is)
    (case kd9 => as_aux_lemma => k_is)
    (case ad10 => as_aux_lemma => k_is)
    (case ld10 => as_aux_lemma => k_is)
    (case cd10 => as_aux_lemma => k_is)
    (case kd10 => as_aux_lemma => k_is)
    (case ad11 => as_aux_lemma => k_is)
    (case ld11 => as_aux_lemma => k_is)
    (case cd11 => as_aux_lemma => k_is)
    (case kd11 => as_aux_lemma => k_is)
    (case ad12 => as_aux_lemma => k_is)
    (case ld12 => as_aux_lemma => k_is)
    (case cd12 => as_aux_lemma => k_is)
    (case kd12 => as_aux_lemma => k_is)
    (case ad13 => as_aux_lemma => k_is)
    (case ld13 => as_aux_lemma => k_is)
    (case cd13 => as_aux_lemma => k_is)
    (case kd13 => as_aux_lemma => k_is)
    (case ad14 => as_aux_lemma => k_is)
    (case ld14 => as_aux_lemma => k_is)
    (case cd14 => as_aux_lemma => k_is)
    (case kd14 => as_aux_lemma => k_is)
    (case ad15 => as_aux_lemma => k_is)
    (case ld15 => as_aux_lemma => k_is)
    (case cd15 => as_aux_lemma => k_is)
    (case kd15 => as_aux_lemma => k_is)
    (case ad16 => as_aux_lemma => k_is)
    (case ld16 => as_aux_lemma => k_is)
    (case cd16 => as_aux_lemma => k_is)
    (case kd16 => as_aux_lemma => k_is)
    (case ad17 => as_aux_lemma => k_is)
    (case ld17 => as_aux_lemma => k_is)
    (case cd17 => as_aux_lemma => k_is)
    (case kd17 => as_aux_lemma => k_is)
    (case ad18 => as_aux_lemma => k_is)
    (case ld18 => as_aux_lemma => k_is)
    (case cd18 => as_aux_lemma => k_is)
    (case kd18 => as_aux_lemma => k_is)
    (case ad19 => as_aux_lemma => k_is)
    (case ld19 => as_aux_lemma => k_is)
    (case cd19 => as_aux_lemma => k_is)
    (case kd19 => as_aux_lemma => k_is)
    (case ad20 => as_aux_lemma => k_is)
    (case ld20 => as_aux_lemma => k_is)
    (case cd20 => as_aux_lemma => k_is)
    (case kd20 => as_aux_lemma => k_is)
    (case ad21 => as_aux_lemma => k_is)
    (case ld21 => as_aux_lemma => k_is)
    (case cd21 => as_aux_lemma => k_is)
    (case kd21 => as_aux_lemma => k_is)
    (case ad22 => as_aux_lemma => k_is)
    (case ld22 => as_aux_lemma => k_is)
    (case cd22 => as_aux_lemma => k_is)
    (case kd22 => as_aux_lemma => k_is)
    (case ad23 => as_aux_lemma => k_is)
    (case ld23 => as_aux_lemma => k_is)
    (case cd23 => as_aux_lemma => k_is)
    (case kd23 => as_aux_lemma => k_is)
    (case ad24 => as_aux_lemma => k_is)
    (case ld24 => as_aux_lemma => k_is)
    (case cd24 => as_aux_lemma => k_is)
    (case kd24 => as_aux_lemma => k_is)
    (case ad25 => as_aux_lemma => k_is)
    (case ld25 => as_aux_lemma => k_is)
    (case cd25 => as_aux_lemma => k_is)
    (case kd25 => as_aux_lemma => k_is)
    (case ad26 => as_aux_lemma => k_is)
    (case ld26 => as_aux_lemma => k_is)
    (case cd26 => as_aux_lemma => k_is)
    (case kd26 => as_aux_lemma => k_is)
    (case ad27 => as_aux_lemma => k_is)
    (case ld27 => as_aux_lemma => k_is)
    (case cd27 => as_aux_lemma => k_is)
    (case kd27 => as_aux_lemma => k_is)
    (case ad28 => as_aux_lemma => k_is)
    (case ld28 => as_aux_lemma => k_is)
    (case cd28 => as_aux_lemma => k_is)
    (case kd28 => as_aux_lemma => k_is)
    (case ad29 => as_aux_lemma => k_is)
    (case ld29 => as_aux_lemma => k_is)
    (case cd29 => as_aux_lemma => k_is)
    (case kd29 => as_aux_lemma => k_is)
    (case ad30 => as_aux_lemma => k_is)
    (case ld30 => as_aux_lemma => k_is)
    (case cd30 => as_aux_lemma => k_is)
    (case kd30 => as_aux_lemma => k_is)
    (case ad31 => as_aux_lemma => k_is)
    (case ld31 => as_aux_lemma => k_is)
    (case cd31 => as_aux_lemma => k_is)
    (case kd31 => as_aux_lemma => k_is)
    (case ad32 => as_aux_lemma => k_is)
    (case ld32 => as_aux_lemma => k_is)
    (case cd32 => as_aux_lemma => k_is)
    (case kd32 => as_aux_lemma => k_is)
    (case ad33 => as_aux_lemma => k_is)
    (case ld33 => as_aux_lemma => k_is)
    (case cd33 => as_aux_lemma => k_is)
    (case kd33 => as_aux_lemma => k_is)
    (case ad34 => as_aux_lemma => k_is)
    (case ld34 => as_aux_lemma => k_is)
    (case cd34 => as_aux_lemma => k_is)
    (case kd34 => as_aux_lemma => k_is)
    (case ad35 => as_aux_lemma => k_is)
    (case ld35 => as_aux_lemma => k_is)
    (case cd35 => as_aux_lemma => k_is)
    (case kd35 => as_aux_lemma => k_is)
    (case ad36 => as_aux_lemma => k_is)
    (case ld36 => as_aux_lemma => k_is)
    (case cd36 => as_aux_lemma => k_is)
    (case kd36 => as_aux_lemma => k_is)
    (case ad37 => as_aux_lemma => k_is)
    (case ld37 => as_aux_lemma => k_is)
    (case cd37 => as_aux_lemma => k_is)
    (case kd37 => as_aux_lemma => k_is)
    (case ad38 => as_aux_lemma => k_is)
    (case ld38 => as_aux_lemma => k_is)
    (case cd38 => as_aux_lemma => k_is)
    (case kd38 => as_aux_lemma => k_is)
    (case ad39 => as_aux_lemma => k_is)
    (case ld39 => as_aux_lemma => k_is)
    (case cd39 => as_aux_lemma => k_is)
    (case kd39 => as_aux_lemma => k_is)
    (case aC => as_aux_lemma => k_is)
    (case am0 => as_aux_lemma => k_is)
    (case im0 => as_aux_lemma => k_is)
    (case lm0 => as_aux_lemma => k_is)
    (case cm0 => as_aux_lemma => k_is)
    (case km0 => as_aux_lemma => k_is)
    (case am1 => as_aux_lemma => k_is)
    (case im1 => as_aux_lemma => k_is)
    (case lm1 => as_aux_lemma => k_is)
    (case cm1 => as_aux_lemma => k_is)
    (case km1 => as_aux_lemma => k_is)
    (case am2 => as_aux_lemma => k_is)
    (case im2 => as_aux_lemma => k_is)
    (case lm2 => as_aux_lemma => k_is)
    (case cm2 => as_aux_lemma => k_is)
    (case km2 => as_aux_lemma => k_is)
    (case am3 => as_aux_lemma => k_is)
    (case im3 => as_aux_lemma => k_is)
    (case lm3 => as_aux_lemma => k_is)
    (case cm3 => as_aux_lemma => k_is)
    (case km3 => as_aux_lemma => k_is)
    (case am4 => as_aux_lemma => k_is)
    (case im4 => as_aux_lemma => k_is)
    (case lm4 => as_aux_lemma => k_is)
    (case cm4 => as_aux_lemma => k_is)
    (case km4 => as_aux_lemma => k_is)
    (case am5 => as_aux_lemma => k_is)
    (case im5 => as_aux_lemma => k_is)
    (case lm5 => as_aux_lemma => k_is)
    (case cm5 => as_aux_lemma => k_is)
    (case km5 => as_aux_lemma => k_is)
    (case am6 => as_aux_lemma => k_is)
    (case im6 => as_aux_lemma => k_is)
    (case lm6 => as_aux_lemma => k_is)
    (case cm6 => as_aux_lemma => k_is)
    (case km6 => as_aux_lemma => k_is)
    (case am7 => as_aux_lemma => k_is)
    (case im7 => as_aux_lemma => k_is)
    (case lm7 => as_aux_lemma => k_is)
    (case cm7 => as_aux_lemma => k_is)
    (case km7 => as_aux_lemma => k_is)
    (case am8 => as_aux_lemma => k_is)
    (case im8 => as_aux_lemma => k_is)
    (case lm8 => as_aux_lemma => k_is)
    (case cm8 => as_aux_lemma => k_is)
    (case km8 => as_aux_lemma => k_is)
    (case ap0 => as_aux_lemma => k_is)
    (case gp0 => as_aux_lemma => k_is)
    (case tp0 => as_aux_lemma => k_is)
    (case rp0 => as_aux_lemma => k_is)
    (case lp0 => as_aux_lemma => k_is)
    (case cp0 => as_aux_lemma => k_is)
    (case kp0 => as_aux_lemma => k_is)
    (case pg => as_aux_lemma => k_is)
    (case hd => as_aux_lemma => k_is)
    (case po => as_aux_lemma => k_is)
    (case sa => as_aux_lemma => k_is)
    (case mk => as_aux_lemma => k_is)
    (case kc => as_aux_lemma => k_is)
    (case nW => as_aux_lemma => k_is)
    (case nB => as_aux_lemma => k_is)
    (case nR => as_aux_lemma => k_is)
    (case ha => as_aux_lemma => k_is)
    (case hn => as_aux_lemma => k_is)
    (case ht => as_aux_lemma => k_is)
    (case hm => as_aux_lemma => k_is)
    (case sf => as_aux_lemma => k_is)
    (case rs => as_aux_lemma => k_is)
    (case is1 => as_aux_lemma => k_is)
    (case ir1 => as_aux_lemma => k_is)
    (case nsub => as_aux_lemma => k_is)
    (case ne => as_aux_lemma => k_is)
    (case ob => as_aux_lemma => k_is)
    (case fi => as_aux_lemma => k_is)
    (case fg => as_aux_lemma => k_is)
    (case iCl => as_aux_lemma => k_is)
    (case tCl => as_aux_lemma => k_is)
    (case ns_NoneType => as_aux_lemma => k_is)
    (case ns_bool => as_aux_lemma => k_is)
    (case ns_int => as_aux_lemma => k_is)
    (case ns_str => as_aux_lemma => k_is)
    (case ns_list => as_aux_lemma => k_is)
    (case ns_tuple => as_aux_lemma => k_is)
    (case ns_dict => as_aux_lemma => k_is)
    (case nt_tuple => as_aux_lemma => k_is)
    (case nt_int => as_aux_lemma => k_is)
    (case nt_bool => as_aux_lemma => k_is)
    (case nt_str => as_aux_lemma => k_is)
    (case nt_list => as_aux_lemma => k_is)
    (case z_isinstance => as_aux_lemma => k_is)
    (case z_int => as_aux_lemma => k_is)
    (case z_bool => as_aux_lemma => k_is)
    (case z_tuple => as_aux_lemma => k_is)
    (case z_len => as_aux_lemma => k_is)
    (case z_all => as_aux_lemma => k_is)
    (case z_any => as_aux_lemma => k_is)
    (case z_zip => as_aux_lemma => k_is)
    (case z_range => as_aux_lemma => k_is)
    (case z_max => as_aux_lemma => k_is)
    (case z_min => as_aux_lemma => k_is)
    (case z_list => as_aux_lemma => k_is)
    (case z_str => as_aux_lemma => k_is)
    (case z_repr => as_aux_lemma => k_is)
    (case z_ValueError => as_aux_lemma => k_is)
    (case u_NOWHERE => as_aux_lemma => k_is)
    (case u_STATIONS => as_aux_lemma => k_is)
    (case u_MOST_ITEMS => as_aux_lemma => k_is)
    (case u_MOST_WORKS => as_aux_lemma => k_is)
    (case u_MOST_STARTS => as_aux_lemma => k_is)
    (case u_NOTHING => as_aux_lemma => k_is)
    (case w_NONE => as_aux_lemma => k_is)
    (case w_DIGITS => as_aux_lemma => k_is)
    (case aC0 => as_aux_lemma => k_is)
    (case iC0 => as_aux_lemma => k_is)
    (case tC0 => as_aux_lemma => k_is)
    (case aC1 => as_aux_lemma => k_is)
    (case iC1 => as_aux_lemma => k_is)
    (case tC1 => as_aux_lemma => k_is)
    (case aC2 => as_aux_lemma => k_is)
    (case iC2 => as_aux_lemma => k_is)
    (case tC2 => as_aux_lemma => k_is)
    (case aC3 => as_aux_lemma => k_is)
    (case iC3 => as_aux_lemma => k_is)
    (case tC3 => as_aux_lemma => k_is)
    (case aC4 => as_aux_lemma => k_is)
    (case iC4 => as_aux_lemma => k_is)
    (case tC4 => as_aux_lemma => k_is)
    (case aC5 => as_aux_lemma => k_is)
    (case iC5 => as_aux_lemma => k_is)
    (case tC5 => as_aux_lemma => k_is)
    (case aC6 => as_aux_lemma => k_is)
    (case iC6 => as_aux_lemma => k_is)
    (case tC6 => as_aux_lemma => k_is)
    (case aC7 => as_aux_lemma => k_is)
    (case iC7 => as_aux_lemma => k_is)
    (case tC7 => as_aux_lemma => k_is)
    (case aC8 => as_aux_lemma => k_is)
    (case iC8 => as_aux_lemma => k_is)
    (case tC8 => as_aux_lemma => k_is)
    (case aC9 => as_aux_lemma => k_is)
    (case iC9 => as_aux_lemma => k_is)
    (case tC9 => as_aux_lemma => k_is)
    (case aC10 => as_aux_lemma => k_is)
    (case iC10 => as_aux_lemma => k_is)
    (case tC10 => as_aux_lemma => k_is)
    (case aC11 => as_aux_lemma => k_is)
    (case iC11 => as_aux_lemma => k_is)
    (case tC11 => as_aux_lemma => k_is)
    (case aC12 => as_aux_lemma => k_is)
    (case iC12 => as_aux_lemma => k_is)
    (case tC12 => as_aux_lemma => k_is)
    (case aC13 => as_aux_lemma => k_is)
    (case iC13 => as_aux_lemma => k_is)
    (case tC13 => as_aux_lemma => k_is)
    (case aC14 => as_aux_lemma => k_is)
    (case iC14 => as_aux_lemma => k_is)
    (case tC14 => as_aux_lemma => k_is)
    (case aC15 => as_aux_lemma => k_is)
    (case iC15 => as_aux_lemma => k_is)
    (case tC15 => as_aux_lemma => k_is)
    (case aC16 => as_aux_lemma => k_is)
    (case iC16 => as_aux_lemma => k_is)
    (case tC16 => as_aux_lemma => k_is)
    (case aC17 => as_aux_lemma => k_is)
    (case iC17 => as_aux_lemma => k_is)
    (case tC17 => as_aux_lemma => k_is)
    (case aC18 => as_aux_lemma => k_is)
    (case iC18 => as_aux_lemma => k_is)
    (case tC18 => as_aux_lemma => k_is)
    (case aC19 => as_aux_lemma => k_is)
    (case iC19 => as_aux_lemma => k_is)
    (case tC19 => as_aux_lemma => k_is)
    (case aC20 => as_aux_lemma => k_is)
    (case iC20 => as_aux_lemma => k_is)
    (case tC20 => as_aux_lemma => k_is)
    (case aC21 => as_aux_lemma => k_is)
    (case iC21 => as_aux_lemma => k_is)
    (case tC21 => as_aux_lemma => k_is)
    (case aC22 => as_aux_lemma => k_is)
    (case iC22 => as_aux_lemma => k_is)
    (case tC22 => as_aux_lemma => k_is)
    (case aC23 => as_aux_lemma => k_is)
    (case iC23 => as_aux_lemma => k_is)
    (case tC23 => as_aux_lemma => k_is)
    (case aC24 => as_aux_lemma => k_is)
    (case iC24 => as_aux_lemma => k_is)
    (case tC24 => as_aux_lemma => k_is)
    (case aC25 => as_aux_lemma => k_is)
    (case iC25 => as_aux_lemma => k_is)
    (case tC25 => as_aux_lemma => k_is)
    (case aC26 => as_aux_lemma => k_is)
    (case iC26 => as_aux_lemma => k_is)
    (case tC26 => as_aux_lemma => k_is)
    (case aC27 => as_aux_lemma => k_is)
    (case iC27 => as_aux_lemma => k_is)
    (case tC27 => as_aux_lemma => k_is)
    (case aGp => as_aux_lemma => k_is)
    (case iGp => as_aux_lemma => k_is)
    (case tGp => as_aux_lemma => k_is)
    (case bGp => as_aux_lemma => k_is)
    (case er_x21 => k_exc)
    (case er_k21 => as_aux_lemma => k_is)
    (case er_b21 => as_aux_lemma => k_is)
    (case er_v21 => as_aux_lemma => k_is)
    (case er_g21 => as_aux_lemma => k_is)
    (case er_s21 => first | rfl | k_is)
    (case er_n21_0 => as_aux_lemma => k_is)
    (case er_n21_1 => as_aux_lemma => k_is)
    (case er_n21_2 => as_aux_lemma => k_is)
    (case er_n21_3 => as_aux_lemma => k_is)
    (case er_n21_4 => as_aux_lemma => k_is)
    (case er_n21_5 => as_aux_lemma => k_is)
    (case er_n21_6 => as_aux_lemma => k_is)
    (case er_n21_7 => as_aux_lemma => k_is)
    (case er_n21_8 => as_aux_lemma => k_is)
    (case er_n21_9 => as_aux_lemma => k_is)
    (case er_n21_10 => as_aux_lemma => k_is)
    (case er_n21_11 => as_aux_lemma => k_is)
    (case er_n21_12 => as_aux_lemma => k_is)
    (case er_n21_13 => as_aux_lemma => k_is)
    (case er_n21_14 => as_aux_lemma => k_is)
    (case er_n21_15 => as_aux_lemma => k_is)
    (case er_n21_16 => as_aux_lemma => k_is)
    (case er_n21_17 => as_aux_lemma => k_is)
    (case er_n21_18 => as_aux_lemma => k_is)
    (case er_n21_19 => as_aux_lemma => k_is)
    (case er_n21_20 => as_aux_lemma => k_is)
    (case er_n21_22 => as_aux_lemma => k_is)
    (case er_n21_23 => as_aux_lemma => k_is)
    (case er_n21_24 => as_aux_lemma => k_is)
    (case er_n21_25 => as_aux_lemma => k_is)
    (case er_n21_26 => as_aux_lemma => k_is)
    (case er_n21_27 => as_aux_lemma => k_is)
    (case er_hg21 => as_aux_lemma => k_is)
    (case er_hk21 => as_aux_lemma => k_is)
    (case er_hd21 => as_aux_lemma => k_is)
    (case er_ha21 => as_aux_lemma => k_is)
    (case er_hm21 => as_aux_lemma => k_is)
    (case er_x1 => k_exc)
    (case er_k1 => as_aux_lemma => k_is)
    (case er_b1 => as_aux_lemma => k_is)
    (case er_v1 => as_aux_lemma => k_is)
    (case er_g1 => as_aux_lemma => k_is)
    (case er_s1 => first | rfl | k_is)
    (case er_n1_0 => as_aux_lemma => k_is)
    (case er_n1_2 => as_aux_lemma => k_is)
    (case er_n1_3 => as_aux_lemma => k_is)
    (case er_n1_4 => as_aux_lemma => k_is)
    (case er_n1_5 => as_aux_lemma => k_is)
    (case er_n1_6 => as_aux_lemma => k_is)
    (case er_n1_7 => as_aux_lemma => k_is)
    (case er_n1_8 => as_aux_lemma => k_is)
    (case er_n1_9 => as_aux_lemma => k_is)
    (case er_n1_10 => as_aux_lemma => k_is)
    (case er_n1_11 => as_aux_lemma => k_is)
    (case er_n1_12 => as_aux_lemma => k_is)
    (case er_n1_13 => as_aux_lemma => k_is)
    (case er_n1_14 => as_aux_lemma => k_is)
    (case er_n1_15 => as_aux_lemma => k_is)
    (case er_n1_16 => as_aux_lemma => k_is)
    (case er_n1_17 => as_aux_lemma => k_is)
    (case er_n1_18 => as_aux_lemma => k_is)
    (case er_n1_19 => as_aux_lemma => k_is)
    (case er_n1_20 => as_aux_lemma => k_is)
    (case er_n1_21 => as_aux_lemma => k_is)
    (case er_n1_22 => as_aux_lemma => k_is)
    (case er_n1_23 => as_aux_lemma => k_is)
    (case er_n1_24 => as_aux_lemma => k_is)
    (case er_n1_25 => as_aux_lemma => k_is)
    (case er_n1_26 => as_aux_lemma => k_is)
    (case er_n1_27 => as_aux_lemma => k_is)
    (case er_hg1 => as_aux_lemma => k_is)
    (case er_hk1 => as_aux_lemma => k_is)
    (case er_hd1 => as_aux_lemma => k_is)
    (case er_ha1 => as_aux_lemma => k_is)
    (case er_hm1 => as_aux_lemma => k_is)
    (case hnX => as_aux_lemma => k_is)
    (case htX => as_aux_lemma => k_is)
    (case eL0 => rfl)
    (case lL0 => as_aux_lemma => k_is)
    (case pL0 => rfl)
    (case tL0 => kernel_rfl)
    (case oL0 => kernel_rfl)
    (case rL0 => exact ⟨_, rfl⟩)
