import PyProof.Rows.All
import Wide.All
import OpenK.AllK
import Wide.FinOn
import KE.KIsAll
import KE.KTryMore
import HandS.ForMost
import HandS.ForExc
import HandS.Defaults
import HandS.ExcIs
import HandS.Lambda
import HandS.Codes
import HandS.Conv
import HandS.More
import HandS.Walk
import HandS.EndTab
import HandS.HeadWalk
import PyProof.ReprRoads
import PyProof.ListRange
import HandS.HeadHook1
import HandS.HeadHook2
import HandS.HeadHook3
import HandS.HeadHook4
import KE.KStateDown
import Lean
import HandS.IsInst
import HandS.Head0
import HandS.Head1
import HandS.Head2
import HandS.HeadEnd
import HandS.Wide
import PyProof.ReprLen
import KE.GoesMore
import KE.GoesEnum
import KE.KFmtOwn
import PyProof.InstEq
import HandS.OwnEq
import HandS.WideMore
import HandS.DictComp
import HandS.TupAny
import HandS.SortInts
import HandS.Style
import KE.LtData
import KE.SortData
import KE.DataMinMax
import KE.DatumOrd
import HandS.Dict
import KE.KeyNested
import HandS.List
import KE.KDictCopyH
import KE.KDictWalk
import KE.KDictSum
import HandS.Iter
import PyProof.DictItems
import PyProof.SumWalkG
import HandS.Finally
import KE.KDictOf
import KE.KDictKeyed
import KE.SortKeyHeap
import HandS.SortKw
import HandS.Zip0
import HandS.MapObj
import HandS.Star
import HandS.Words
import HandS.ListItems
import HandS.Comp
import PyProof.Rows.SumAny
import HandS.RaiseMore
import HandS.Deep
import PySem.Challenge.RW_turncouple_k18_whole_alike_threes
open PySem PySem.W PySem.Calls PyProof.Rows in
set_option Elab.async false in
set_option maxRecDepth 100000 in
set_option maxHeartbeats 0 in
theorem lookAt (h : PySem.Challenge.rw_turncouple_k18_whole_alike_threes.row.wellSaid = true → PySem.Challenge.rw_turncouple_k18_whole_alike_threes.row.Holds) : PySem.Challenge.rw_turncouple_k18_whole_alike_threes.Holds := by
  w_on; o_law
  exact h (by assumption)
set_option Elab.async false
set_option linter.all false
set_option maxRecDepth 100000
set_option maxHeartbeats 4000000
/-! Exceptions that are caught, kept in a name and asked of later. -/
namespace TCX
open PySem PySem.Spec PyProof.Rows L2
/-! ### a clause that names five classes -/
section
open PySem.W
variable {M : Model} {K : Frag}
theorem exm_tup5 {c1 c2 c3 c4 c5 cls : Value} {tp e : Addr} {b : Bool} {h : Heap} (X : K.In h) (LT : Looks M h (typeOf (.ref e)) cls) (hp : h.get? tp = some { cls := .type "tuple", data := .seq [c1, c2, c3, c4, c5].toArray }) (hx : exmAny K cls [c1, c2, c3, c4, c5] = some b) :
    Looks M h (excMatches (.ref e) (.ref tp)) b := by
  intro A Q E s k₀ q
  obtain ⟨hh, g, d, tk, os⟩ := s
  have k : ∀ b o, h.get? b = some o → hh.get? b = some o := k₀
  have T0 : Looks M h (isInstance (.ref tp) (.type "tuple")) true := ((Looks.ld hp).andThen .now).andThen (Looks.of_pure isSubtype_tuple_tuple)
  have T1 := T0.keeps k
  have TY := LT.keeps k
  have hp' := k _ _ hp
  obtain ⟨b1, d1, x1, y1, z1⟩ := exmAny_cons hx
  obtain ⟨b2, d2, x2, y2, z2⟩ := exmAny_cons y1
  obtain ⟨b3, d3, x3, y3, z3⟩ := exmAny_cons y2
  obtain ⟨b4, d4, x4, y4, z4⟩ := exmAny_cons y3
  obtain ⟨b5, d5, x5, y5, z5⟩ := exmAny_cons y4
  have u1 := (exm_cls (M := M) X x1).1.keeps k
  have v1 := (exm_cls (M := M) X x1).2.keeps k
  have u2 := (exm_cls (M := M) X x2).1.keeps k
  have v2 := (exm_cls (M := M) X x2).2.keeps k
  have u3 := (exm_cls (M := M) X x3).1.keeps k
  have v3 := (exm_cls (M := M) X x3).2.keeps k
  have u4 := (exm_cls (M := M) X x4).1.keeps k
  have v4 := (exm_cls (M := M) X x4).2.keeps k
  have u5 := (exm_cls (M := M) X x5).1.keeps k
  have v5 := (exm_cls (M := M) X x5).2.keeps k
  have w5 : some false = some d5 := y5
  cases w5
  subst z1 z2 z3 z4 z5
  unfold excMatches
  refine wpAny_bind (T1.at ?_)
  dsimp only
  rw [if_pos rfl]
  first
    | refine wpAny_bind (wpAny_seqItems hp' rfl ?_)
    | refine wpAny_bind (wpAny_bind (wpAny_seqItems hp' rfl (wpAny_pure ?_)))
  dsimp only [Option.getD_some, Option.getD]
  cases b1 <;> cases b2 <;> cases b3 <;> cases b4 <;> cases b5 <;> ((repeat (first | simp only [List.forIn_cons, List.forIn_nil, Bool.not_true, Bool.false_eq_true, if_false, if_true] | lk)); exact q)
end
/-- the test t of a clause, asked while an exception of the class cls is handled: it says b -/
def Tst (X : Cx) (t : Expr) (cls : Value) (b : Bool) : Prop :=
  ∀ (a : Addr) (oe : Obj) (pn : List (Addr × Obj)) (σ : L2.St) (H : Hp) (s : Shared) (Q : Bool → Shared → Prop) (E : Value → Shared → Prop),
    Inv (X.suite a ((a, oe) :: pn)) [] σ H s → oe.cls = cls → (∀ h', (∀ q o, s.heap.get? q = some o → h'.get? q = some o) → Q b { s with heap := h' }) →
    wpAny (model X.prog X.w) (X.A.mark (some (.ref a))) (eval t X.env) (fun c s₁ => wpAny (model X.prog X.w) (X.A.mark (some (.ref a))) (excMatches (.ref a) c) Q E s₁) E s
section
variable {X : Cx}
theorem suite_ty {a : Addr} {oe : Obj} {pn : List (Addr × Obj)} {σ : L2.St} {H : Hp} {s : Shared} (I : Inv (X.suite a ((a, oe) :: pn)) [] σ H s) : PySem.W.Looks (model X.prog X.w) s.heap (typeOf (.ref a)) oe.cls := by
  obtain ⟨hget, _⟩ := I.pin (a, oe) (List.mem_append.mpr (.inl List.mem_cons_self))
  exact fun A Q E s k q => wpAny_typeOf_ref (k _ _ hget) q
theorem ld_names {a : Addr} {oe : Obj} {pn : List (Addr × Obj)} {σ : L2.St} {H : Hp} {s : Shared} {x : Str} {c : Value} {np : Pos} {Q : Value → Shared → Prop} {E : Value → Shared → Prop} (hc : Names X x c) (I : Inv (X.suite a ((a, oe) :: pn)) [] σ H s) (q : Q c s) :
    wpAny (model X.prog X.w) (X.A.mark (some (.ref a))) (eval (.Name x np) X.env) Q E s := by
  obtain ⟨hg, hdbg, hm | ⟨hm, hv, hnn⟩⟩ := hc
  · exact ld_glob (X := X.suite a ((a, oe) :: pn)) I hg hm q hdbg
  · exact ld_blt (X := X.suite a ((a, oe) :: pn)) I hg hm hv q hnn hdbg
theorem tst_name {x : Str} {c cls : Value} {np : Pos} {b : Bool} (hc : Names X x c) (he : PySem.W.exmOne X.K cls c = some b) : Tst X (.Name x np) cls b := by
  intro a oe pn σ H s Q E I e q
  subst e
  exact ld_names hc I ((PySem.W.exm_one I.kIn (suite_ty I) he).here (q s.heap fun _ _ z => z))
theorem tst_tup4 {x1 x2 x3 x4 : Str} {c1 c2 c3 c4 cls : Value} {p1 p2 p3 p4 tpos : Pos} {kk : Nat} {b : Bool} (n1 : Names X x1 c1) (n2 : Names X x2 c2) (n3 : Names X x3 c3) (n4 : Names X x4 c4) (he : PySem.W.exmAny X.K cls [c1, c2, c3, c4] = some b) :
    Tst X (.Tuple [.Name x1 p1, .Name x2 p2, .Name x3 p3, .Name x4 p4] kk tpos) cls b := by
  intro a oe pn σ H s Q E I e q
  subst e
  refine wpAny_Tuple ?_
  refine wpAny_items_cons (ld_names n1 I ?_)
  refine wpAny_items_cons (ld_names n2 I ?_)
  refine wpAny_items_cons (ld_names n3 I ?_)
  refine wpAny_items_cons (ld_names n4 I ?_)
  refine wpAny_items_nil ⟨by size_fits, ?_⟩
  have kp : ∀ q o, s.heap.get? q = some o → (s.heap.push { cls := .type "tuple", data := .seq [c1, c2, c3, c4].toArray }).get? q = some o := fun _ _ z => Heap.get?_push_of_some _ z
  exact (PySem.W.exm_tup4 (I.kIn.keeps kp) ((suite_ty I).keeps kp) (Heap.get?_push_size s.heap rfl) he).here (q _ kp)
theorem tst_tup5 {x1 x2 x3 x4 x5 : Str} {c1 c2 c3 c4 c5 cls : Value} {p1 p2 p3 p4 p5 tpos : Pos} {kk : Nat} {b : Bool} (n1 : Names X x1 c1) (n2 : Names X x2 c2) (n3 : Names X x3 c3) (n4 : Names X x4 c4) (n5 : Names X x5 c5) (he : PySem.W.exmAny X.K cls [c1, c2, c3, c4, c5] = some b) :
    Tst X (.Tuple [.Name x1 p1, .Name x2 p2, .Name x3 p3, .Name x4 p4, .Name x5 p5] kk tpos) cls b := by
  intro a oe pn σ H s Q E I e q
  subst e
  refine wpAny_Tuple ?_
  refine wpAny_items_cons (ld_names n1 I ?_)
  refine wpAny_items_cons (ld_names n2 I ?_)
  refine wpAny_items_cons (ld_names n3 I ?_)
  refine wpAny_items_cons (ld_names n4 I ?_)
  refine wpAny_items_cons (ld_names n5 I ?_)
  refine wpAny_items_nil ⟨by size_fits, ?_⟩
  have kp : ∀ q o, s.heap.get? q = some o → (s.heap.push { cls := .type "tuple", data := .seq [c1, c2, c3, c4, c5].toArray }).get? q = some o := fun _ _ z => Heap.get?_push_of_some _ z
  exact (exm_tup5 (I.kIn.keeps kp) ((suite_ty I).keeps kp) (Heap.get?_push_size s.heap rfl) he).here (q _ kp)
end
/-! ### a caught exception that is tracked from now on -/
/-- at a stands an exception of the class cls, its own dict d -/
def ExV (cls : Value) (d : Option Addr) (a : Addr) : HO := .ext fun h => ∃ (oe : Obj) (vs : Array Value), h.get? a = some oe ∧ Zc cls d oe ∧ oe.data = .fields vs
theorem exV_ok {P : Program} {w : World} {H : Hp} {h : Heap} {a : Addr} {cls : Value} {d : Option Addr} {oe : Obj} {vs : Array Value} (e : h.get? a = some oe) (z : Zc cls d oe) (hd : oe.data = .fields vs) : ObjOk P w H h a (ExV cls d a) :=
  ⟨⟨oe, vs, e, z, hd⟩, ⟨oe, e⟩, fun _ _ ⟨o, v, q, r⟩ k => ⟨o, v, k o q, r⟩⟩
theorem flyZ_keeps {B h h' : Heap} {l : List Env} {e : Addr} {Z : Obj → Prop} (R : HandSPX.FlyingZ B l e Z h) (k : ∀ b o, h.get? b = some o → h'.get? b = some o) : HandSPX.FlyingZ B l e Z h' := by
  obtain ⟨f1, f2, f3, oe, ws, T, oT, ts, he, hz, hd, h1, hn, hne, hT, hdT, h3⟩ := R
  exact ⟨fun b o q => k b o (f1 b o q), f2, f3.of_keeps fun b o q _ => ⟨o, k b o q, rfl⟩, oe, ws, T, oT, ts, k _ _ he, hz, hd, h1, hn, hne, k _ _ hT, hdT, h3⟩
section
variable {X : Cx} {pins : List (Addr × Obj)} {σ : L2.St} {H : Hp} {s : Shared}
theorem Inv_track {a : Addr} {cls : Value} {d : Option Addr} {oe : Obj} {vs : Array Value} (I : Inv X pins σ H s) (h0 : X.s_0.heap.get? a = none) (na : H a = none) (he : s.heap.get? a = some oe) (hz : Zc cls d oe) (hd : oe.data = .fields vs) (nL : a ≠ X.env.locals) (nP : ∀ p ∈ X.pn ++ pins, p.1 ≠ a) :
    Inv X pins σ (upd H a (ExV cls d a)) s := by
  have nS : ∀ b u, H b = some u → b ≠ a := fun b u e => ne_of_none e na
  refine ⟨I.ok, I.os, I.bare, ⟨I.base.keep, I.base.slot, fun b o e n hx => ?_, I.base.there, fun b xs e => ?_, fun b o u e => ?_, fun b ps e => ?_⟩, I.loc, I.cell, ?_, fun x c e => ?_, fun p hp => ?_, fun b u e => ?_, I.len⟩
  · rw [upd_ne (fun z => by rw [z, h0] at e; cases e)]
    exact I.base.free b o e n hx
  · have q := I.base.tups b xs e
    rw [upd_ne (nS _ _ q)]
    exact q
  · have q := I.base.frzs b o u e
    rw [upd_ne (nS _ _ q)]
    exact q
  · obtain ⟨m, q⟩ := I.base.tbls b ps e
    exact ⟨m, by rw [upd_ne (nS _ _ q)]; exact q⟩
  · rw [upd_ne (Ne.symm nL)]
    exact I.free
  · obtain ⟨v, o, ho, hdc⟩ := I.cell x c e
    rw [upd_ne (fun z => by
      rw [z, he] at ho
      cases ho
      rw [hd] at hdc
      cases hdc)]
    exact I.freeC x c e
  · obtain ⟨e, n, ne, nf, dd⟩ := I.pin p hp
    exact ⟨e, by rw [upd_ne (nP p hp)]; exact n, ne, nf, dd⟩
  · by_cases hb : b = a
    · subst hb
      rw [upd_same] at e
      cases e
      exact exV_ok he hz hd
    · rw [upd_ne hb] at e
      exact (I.hok b u e).stay (fun c v _ q => q) (fun c q => by rw [upd_ne (nS _ _ q)]; exact q) fun c xs q => by rw [upd_ne (nS _ _ q)]; exact q
theorem Inv_suite0 {a : Addr} (I : Inv X pins σ H s) : Inv (X.suite a (X.pn ++ pins)) [] σ H s :=
  ⟨I.ok.suite _ _, I.os, I.bare, I.base, I.loc, I.cell, I.free, I.freeC, fun p hp => I.pin p (by rw [List.append_nil] at hp; exact hp), I.hok, I.len⟩
theorem Inv_unsuite0 {a : Addr} {pn' : List (Addr × Obj)} (I : Inv (X.suite a (X.pn ++ pins)) pn' σ H s) (ok : X.Ok) : Inv X pins σ H s :=
  ⟨ok, I.os, I.bare, I.base, I.loc, I.cell, I.free, I.freeC, fun p hp => I.pin p (List.mem_append_left _ hp), I.hok, I.len⟩
end
/-- the ends of a suite whose name's slot i is emptied behind it -/
def endsAs (i : Nat) (D : Ends) : Ends := { nx := fun σ' H' => D.nx (σ'.set i none) H', rt := D.rt, bk := fun σ' H' => D.bk (σ'.set i none) H', ct := fun σ' H' => D.ct (σ'.set i none) H' }
/-- what the clauses wish: each has its classes, its name's slot, its suite -/
def wKeep (K : PySem.W.Frag) (D : Ends) : List (List Value × Nat × (Addr → Value → Option Addr → TS)) → WX
  | [] => fun _ _ _ _ => False
  | (cs, i, ts) :: r => fun cls d σ H => ∃ b, PySem.W.exmAny K cls cs = some b ∧ (b = true → ∀ a, H a = none → ts a cls d (endsAs i D) (σ.set i (some (.ref a))) (upd H a (ExV cls d a))) ∧ (b = false → wKeep K D r cls d σ H)
inductive HdK (X : Cx) : List ExceptHandler → List (List Value × Nat × (Addr → Value → Option Addr → TS)) → Prop
  | nil : HdK X [] []
  | cons {t : Expr} {n : Str} {i : Nat} {cs : List Value} {ts : Addr → Value → Option Addr → TS} {b₀ : Stmt} {suite : List Stmt} {pos' : Pos} {hds : List ExceptHandler} {l : List (List Value × Nat × (Addr → Value → Option Addr → TS))}
      (ht : ∀ cls b, PySem.W.exmAny X.K cls cs = some b → Tst X t cls b) (hi : X.N[i]? = some n) (hln : X.env.kindOf n = some .local)
      (hsu : ∀ (a : Addr) (cls : Value) (d : Option Addr) (pn : List (Addr × Obj)), PSs (X.suite a pn) (b₀ :: suite) (ts a cls d)) (r : HdK X hds l) :
      HdK X (.ExceptHandler (some t) (some n) (b₀ :: suite) pos' :: hds) ((cs, i, ts) :: l)
section
variable {X : Cx} {body : List Stmt} {h₀ : ExceptHandler} {hds : List ExceptHandler} {l : List (List Value × Nat × (Addr → Value → Option Addr → TS))} {pos : Pos} {tb : WX → TS}
theorem ps_try_keep (hs : X.stack = X.env :: X.outer) (hf : X.env.frame = some X.env.locals) (hex : X.ex = []) (hN : X.N.Nodup)
    (hb : ∀ (W : WX) (pn : List (Addr × Obj)) (xe : Value → Shared → Prop), Takes (X.tr pn xe) W → PassesOwn (model X.prog X.w) X.A X.env xe → PSs (X.tr pn xe) body (tb W))
    (hh : HdK X (h₀ :: hds) l) : PS X (.Try body (h₀ :: hds) [] [] pos) (fun D σ H => tb (fun cls d σ' H' => σ'.length = X.N.length → wKeep X.K D l cls d σ' H') D σ H) := by
  refine ⟨fun pins s σ H D I h => ?_⟩
  have ok := I.ok
  have hfr : X.A.frames = some (X.env :: X.outer) := by rw [ok.frames, hs]
  refine wpAny_Try_except ?_
  refine wpAny_mono ((hb (fun cls d σ' H' => σ'.length = X.N.length → wKeep X.K D l cls d σ' H') (X.pn ++ pins) (fun e s₁ => wpAny (model X.prog X.w) X.A (noteFrame e X.env) (fun _ s₂ => wpAny (model X.prog X.w) X.A (setFlight e none) (fun _ s₃ =>
    wpAny (model X.prog X.w) X.A (handleBy e X.env (h₀ :: hds)) (SP X pins D) X.xe s₃) X.xe s₂) X.xe s₁) (fun u s' xx => ?_) PassesOwn.looking).run [] s σ H D (I.toTry _) h) (fun f s1 hsp => ?_) (fun e s1 he => he)
  · obtain ⟨a, B, sI, pins', σ', H', cls, d, rfl, J', nb, up, sky, na, os, ag, w⟩ := xx
    have J : Inv X pins σ' H' sI := J'.ofTry ok
    have sky' : Sky B (X.env :: X.outer) a (Zc cls d) X.env.locals s'.heap := by rw [← hs]; exact sky
    show wpAny (model X.prog X.w) X.A (noteFrame (.ref a) X.env) _ _ _
    refine Sky.land Zc.steady hfr hf sky' fun h3 fl3 up3 => ?_
    have notFr : ∀ {h : Heap} {o : Obj} {vs : Array Value}, h.FunFrames B (X.env :: X.outer) → h.get? a = some o → o.data = .fields vs → a ∉ frs (X.env :: X.outer) := fun {h o vs} ff e dd hm => by
      obtain ⟨_, o', e', hnf⟩ := ff.mem hm
      rw [e] at e'; cases e'
      exact hnf _ dd
    have nfr : a ∉ frs (X.env :: X.outer) := by
      obtain ⟨oe3, vs3, he3, hz3, hd3⟩ := fl3.there
      exact notFr fl3.2.2.1 he3 hd3
    have nL : a ≠ X.env.locals := fun z => nfr (List.mem_filterMap.mpr ⟨X.env, List.mem_cons_self, by rw [hf, z]⟩)
    have nF : a ∉ X.fs := fun hm => by
      obtain ⟨e, he, q⟩ := List.mem_filterMap.mp hm
      exact nfr (List.mem_filterMap.mpr ⟨e, List.mem_cons_of_mem _ he, q⟩)
    have nI : sI.heap.get? a = none := by
      cases e : sI.heap.get? a with
      | none => rfl
      | some o =>
        have z := nb a o e (by rw [hs]; exact nfr)
        rw [fl3.2.1] at z
        cases z
    have n0 : X.s_0.heap.get? a = none := by
      cases e : X.s_0.heap.get? a with
      | none => rfl
      | some o =>
        obtain ⟨o', z⟩ := J.base.there a o e (by rw [hex]; exact fun z => nomatch z)
        rw [nI] at z
        cases z
    have nP : ∀ p ∈ X.pn ++ pins, p.1 ≠ a := fun p hp z => by
      obtain ⟨e, _⟩ := J.pin p hp
      rw [z, nI] at e
      cases e
    have go : ∀ {hds' : List ExceptHandler} {l' : List (List Value × Nat × (Addr → Value → Option Addr → TS))}, HdK X hds' l' → wKeep X.K D l' cls d σ' H' → ∀ h3 : Heap, HandSPX.FlyingZ B (X.env :: X.outer) a (Zc cls d) h3 → sI.heap.UpToSlots h3 →
        wpAny (model X.prog X.w) X.A (handleBy (.ref a) X.env hds') (SP X pins D) X.xe { s' with heap := h3 } := by
      intro hds' l' hk
      induction hk with
      | nil =>
        intro w
        exact w.elim
      | @cons t n i cs ts b₀ suite pos' hds2 l2 ht hi hln hsu r ih =>
        intro w h3 fl3 up3
        obtain ⟨b, hb1, hyes, hno⟩ := w
        have J3 : Inv X pins σ' H' { s' with heap := h3 } := J.landed nb fl3.1 up3 os ag
        obtain ⟨oe3, vs3, he3, hz3, hd3⟩ := fl3.there
        have S3 := J3.suite he3 hd3 na nL nF
        refine wpAny_handleBy_cons (codeAny_handlers_test (ht cls b hb1 a oe3 _ _ _ _ _ _ S3 hz3.1 fun h4 kp => ?_)) (by intro q; cases q)
        have fl4 := flyZ_keeps fl3 kp
        have up4 : sI.heap.UpToSlots h4 := up3.trans (Heap.UpToSlots.of_keeps kp)
        cases b with
        | true =>
          refine codeAny_handlers_suite_as ?_
          refine HandSPX.lands_againZ (s := { s' with heap := h4 }) fl4 fun h5 fl5 up5 => ?_
          have J5 : Inv X pins σ' H' { s' with heap := h5 } := J.landed nb fl5.1 (up4.trans up5) os ag
          obtain ⟨oe5, vs5, he5, hz5, hd5⟩ := fl5.there
          have K5 : Inv X pins σ' (upd H' a (ExV cls d a)) { s' with heap := h5 } := Inv_track J5 n0 na he5 hz5 hd5 nL nP
          have S5 : Inv (X.suite a (X.pn ++ pins)) [] σ' (upd H' a (ExV cls d a)) { s' with heap := h5 } := Inv_suite0 K5
          refine store_ok (X := X.suite a (X.pn ++ pins)) (v := .ref a) S5 hN hi (.inl hln) rfl (fun s6 S6 => ?_) (.inr hln)
          refine wpAny_mono ((hsu a cls d (X.pn ++ pins)).run [] s6 _ _ _ S6 (hyes rfl a na)) (fun f s7 hsp => ?_) (fun _ _ z => False.elim z)
          have end_ : ∀ {σ6 : L2.St} {H6 : Hp} {Q : Shared → Prop}, Inv (X.suite a (X.pn ++ pins)) [] σ6 H6 s7 → (∀ s8, Inv X pins (σ6.set i none) H6 s8 → Q s8) →
              wpAny (model X.prog X.w) X.A (do bindName X.env n .none; unbindBehindTheSuite X.env n pos') (fun _ s8 => Q s8) X.xe s7 := fun {σ6 H6 Q} S6 hq => gone_ok (Inv_unsuite0 S6 ok) hN hi hln hq
          cases f with
          | next =>
            obtain ⟨σ6, H6, S6, q6⟩ := hsp
            exact end_ S6 fun s7 J7 => ⟨_, _, J7, q6⟩
          | brk =>
            obtain ⟨σ6, H6, S6, q6⟩ := hsp
            exact end_ S6 fun s7 J7 => ⟨_, _, J7, q6⟩
          | cont =>
            obtain ⟨σ6, H6, S6, q6⟩ := hsp
            exact end_ S6 fun s7 J7 => ⟨_, _, J7, q6⟩
          | ret u =>
            obtain ⟨v6, σ6, H6, S6, r6, q6⟩ := hsp
            exact end_ S6 fun s7 J7 => ⟨_, _, _, J7, r6, q6⟩
        | false =>
          show wpAny _ X.A (handleBy (.ref a) X.env hds2) _ _ _
          exact ih (hno rfl) h4 fl4 up4
    exact go hh (w J.len) h3 fl3 (up.trans up3)
  · cases f with
    | next =>
      obtain ⟨σ', H', J', q⟩ := hsp
      exact wpAny_execs_nil ⟨σ', H', J'.ofTry ok, q⟩
    | brk =>
      obtain ⟨σ', H', J', q⟩ := hsp
      exact ⟨σ', H', J'.ofTry ok, q⟩
    | cont =>
      obtain ⟨σ', H', J', q⟩ := hsp
      exact ⟨σ', H', J'.ofTry ok, q⟩
    | ret u =>
      obtain ⟨v, σ', H', J', r, q⟩ := hsp
      exact ⟨v, σ', H', J'.ofTry ok, r, q⟩
end
/-! ### isinstance of it -/
section
variable {X : Cx}
/-- isinstance(e, c), e a kept exception of an own class without fields -/
def rIsV (K : PySem.W.Frag) : List V → Hp → VK → Prop := fun xs H Q => ∃ (a D : Addr) (c : V) (cv : Value) (b : Bool), xs = [.ref a, c] ∧ H a = some (ExV (.ref D) none a) ∧ ExcC K D ∧ (∀ u, RelV c u → u = cv) ∧ PySem.W.kitOne K (.ref D) cv = some b ∧ Q (.bl b) H
theorem inst_of {pins : List (Addr × Obj)} {σ : L2.St} {H : Hp} {s : Shared} {a D : Addr} (I : Inv X pins σ H s) (h : H a = some (ExV (.ref D) none a)) : ∃ oe, PySem.W.InstAt s.heap a oe D none := by
  obtain ⟨⟨oe, vs, hget, hz, hv⟩, _, _⟩ := I.hok a _ h
  refine ⟨oe, ?_⟩
  obtain ⟨oc, od, oda, osl⟩ := oe
  obtain ⟨h1, h2⟩ := hz
  dsimp only at h1 h2 hv
  subst h1 h2 hv
  exact ⟨hget, rfl, rfl, trivial⟩
theorem call_isV : CallR X (.builtin "isinstance") (rIsV X.K) := by
  intro pins s σ H xs us Q I r h
  obtain ⟨a, D, c, cv, b, rfl, hH, C, hcv, e, q⟩ := h
  cases r with
  | cons rx rr =>
    cases rr with
    | cons rt rr =>
      cases rr
      cases rx
      have ec := hcv _ rt
      subst ec
      obtain ⟨oe, J⟩ := inst_of I hH
      exact PySem.W.kia_one (PySem.W.handS_kitx_exc C.hg C.hk C.hs C.hd C.ha C.hn C.ht C.hm) I.kIn J e (fun z => nomatch z) fun tk => ⟨.bl b, H, I.kept (t' := tk) fun _ _ z => z, rfl, q⟩
/-- xs.count(y), flat items -/
def rCount (K : PySem.W.Frag) : V → List V → Hp → VK → Prop := fun x xs H Q => ∃ (a : Addr) (ys : List V) (y : V), x = V.ref a ∧ xs = [y] ∧ SqL K H a ys ∧ flatV y = true ∧ ys.all flatV = true ∧ Q (.int ((ys.countP fun z => eqV z y : Nat) : Int)) H
theorem count_eqU {y : V} : ∀ {xs : List V} {us : List Value}, Vals xs us → xs.all flatV = true → us.countP (eqU y) = xs.countP fun z => eqV z y
  | _, _, .nil, _ => rfl
  | x :: xs, u :: us, .cons r t, f => by
    rw [List.all_cons, Bool.and_eq_true] at f
    rw [List.countP_cons, List.countP_cons, eqU_of r f.1, count_eqU t f.2]
theorem mt_count : MtR X "list.count" (rCount X.K) := by
  intro pins s σ H x xs v us Q I rx rxs h
  obtain ⟨a, ys, y, rfl, rfl, hs, fy, fys, q⟩ := h
  cases rx
  cases rxs with
  | cons ry rt =>
    rename_i uy ut
    cases rt
    obtain ⟨its, rv, ⟨⟨cls, dd, data, sl⟩, n, ho, hc, hdn, hd⟩, hlen⟩ := I.list hs
    simp only at hc hd
    subst hc hd
    refine call_meets PySem.F.slot_list_count ⟨_, ho, rfl⟩ PySem.F.entry_list_count (PySem.F.args_list_count_2 _ _)
      (SeqAt.list_countAt a its.toArray n dd sl uy (eqU y)) ⟨ho, fun u' hu' => mem_eqAt ry fy rv fys u' (by simpa using hu'), ?_⟩
    have ec : its.toArray.toList.countP (eqU y) = ys.countP fun z => eqV z y := count_eqU rv fys
    refine ⟨.int ((ys.countP fun z => eqV z y : Nat) : Int), H, I.tok _, ⟨s.toks, ?_⟩, q⟩
    rw [ec]
end
end TCX
/-! Defs that ask repr of lists and tuples: the guards of the calls around are told. -/
namespace TCX
open PySem PySem.Spec PyProof.Rows L2
/-- FnOk where no repr is under way -/
structure FnG (P : Program) (w : World) (K : PySem.W.Frag) (mg : Str → Option Value) (base : Heap) (CX : CXT) (k : Nat) (f : Addr) (fd : FuncData) (ps : List Str) (sp : Sp) : Prop where
  glen : ∀ vs H Q E, sp vs H Q E → vs.length = ps.length
  grun : ∀ (A : Around) (outer : List Env) (s : Shared) (H : Hp) (args : Args) (us : List Value) (vs : List V) (Q : VK) (E : XK), A.guards = some [] → Room k A → Env0 P w K mg base A outer s H → BindsTo s fd args (ps.zip us) → Vals vs us → sp vs H Q E →
    codeAny (model P w) A (.call (.ref f) args) (CR CX outer P w H s Q E) s
section
variable {P : Program} {w : World} {K : PySem.W.Frag} {mg : Str → Option Value} {base : Heap} {x qual : Str} {params : Arguments} {body : List Stmt} {scope : Scope} {dvs : List V} {kws : List (Str × V)} {f : Addr} {fd : FuncData} {CX : CXT} {N ps : List Str} {k : Nat} {sp : Sp}
theorem okG (F : FunD K x qual params body scope dvs kws f fd) (S : FnScope N ps scope) (len : ∀ vs H Q E, sp vs H Q E → vs.length = ps.length)
    (hbody : ∀ (cdv : Value) (A : Around) (outer : List Env) (s : Shared) (H : Hp) (vs : List V) (Q : VK) (E : XK), A.guards = some [] → Room k (A.deeper (envOfC qual scope s.heap.objs.size f cdv)) → sp vs H Q E →
      ∃ t, PSs (cxOf CX P w K mg base N qual scope f cdv A outer s H E) body t ∧ t { nx := fun _ H' => Q .non H', rt := Q } (L2.start N vs) H) : FnG P w K mg base CX (k + 1) f fd ps sp := by
  obtain ⟨oc, od, dV, kV, doc, pm, an, cdv, ct, osl, rfl, lk, hcd, _, _⟩ := F.ex
  exact ⟨len, fun A outer s H args us vs Q E hg hr e0 hb r hsp => LamX.run_ofS lk hcd S hr e0 hb r (len _ _ _ _ hsp) fun hr' => hbody cdv A outer s H vs Q E hg hr' hsp⟩
end
section
variable {X : Cx} {CX : CXT} {k : Nat} {f : Addr} {fd : FuncData} {ps : List Str} {sp : Sp} {E : XK} {x : Str} {p pos : Pos} {e : Expr} {es : List Expr} {t : TA} {dvs : List V} {ds : List Value}
/-- f(e, ..) of such a def -/
theorem pe_callG (F : FnG X.prog X.w X.K X.mg X.base CX k f fd ps sp) (hG : X.A.guards = some []) (hr : Room k X.A) (hg : Gl X x) (hm : X.mg x = some (.ref f)) (hk : PySem.W.keepIn X.K (.ref f) = true) (hb : L2.Binds X.K fd ps ds) (hd : Vals dvs ds) (hx : Passes CX X E)
    (ha : PA X (e :: es) t) (hdb : (x == ("__debug__" : Str)) = false := by decide) (he : starEach (e :: es) X.env = (false, eval e X.env) :: starEach es X.env := by rfl) (hpl : (backTo pos (starEach es X.env)).any (·.1) = false := by rfl) :
    PE X (.Call (.Name x p) (e :: es) [] pos) (tCall sp dvs E t) := by
  refine ⟨fun pins s σ H Q I h => wpAny_Call_Name_kw (ld_glob I hg hm ?_ hdb)⟩
  refine PySem.W.callWith_K (h₀ := X.base) I.ok.mod.kin hk (thn (ha.run pos pins s σ H _ I h) fun us s1 z => ?_) he hpl
  obtain ⟨vs, H1, I1, r, q⟩ := z
  refine ⟨I1.kIn, wpAny_call (codeAny_mono (F.grun X.A X.stack s1 H1 ⟨us, []⟩ (us ++ ds) (vs ++ dvs) Q E hG hr I1.env0 (hb s1 us I1.kIn ?_) (r.append hd) q) fun y s' hq => ?_)⟩
  · rw [← (r.append hd).length]
    exact F.glen _ _ _ _ q
  · match y, hq with
    | .error u, hq => exact hx pins σ H1 s1 u s' I1 hq
    | .ok (.ret u), hq => exact I1.after hq
    | .ok .next, hq => exact False.elim hq
    | .ok .brk, hq => exact False.elim hq
    | .ok .cont, hq => exact False.elim hq
/-- repr(x) of lists and tuples of data -/
theorem call_reprD (hG : X.A.guards = some []) (hu : X.A.units + 64 < cLine) : CallR X (.builtin "repr") (fun xs H Q => ∃ (a : Addr) (d : PyData), xs = [.ref a] ∧ Dp X.K H (.ref a) d ∧ d.showable = true ∧ d.hasDict = false ∧ d.depth ≤ 60 ∧ d.shown.length ≤ sizeLine ∧ Q (.str d.shown) H) := by
  intro pins s σ H xs us Q I r h
  obtain ⟨a, d, rfl, hd, hs, hn, hdp, hz, q⟩ := h
  rw [Vals.ref1 r]
  obtain ⟨as, hr⟩ := Dp.reads I d (.ref a) (.ref a) hd rfl
  exact repr_of_reads' hr hs (fun z => by rw [hn] at z; cases z) hG (by omega) (fun _ _ z => z) (fun h' u tk hk => ⟨.str d.shown, H, I.kept (t' := tk) hk, ⟨u, rfl⟩, q⟩) hz
theorem call_reprB : CallR X (.builtin "repr") (fun xs H Q => ∃ b : Bool, xs = [.bl b] ∧ Q (.str (if b then "True" else "False")) H) := by
  intro pins s σ H xs us Q I r h
  obtain ⟨b, rfl, q⟩ := h
  obtain ⟨u, rfl, rfl⟩ := vals1 r
  exact P.repr_of_bool ⟨.str (if b then "True" else "False"), H, I.tok _, ⟨_, rfl⟩, q⟩
end
/-! ### list(range(a, b, 2)) -/
theorem size2 {a b : Int} {n : Nat} (h : a < b) (hn : (b - a - 1) / 2 + 1 = n) : Builtin.Range.rangeSize a b 2 = n := by
  unfold Builtin.Range.rangeSize
  rw [if_pos (by decide), if_pos h, hn]
theorem size2_0 {a b : Int} (h : ¬ a < b) : Builtin.Range.rangeSize a b 2 = (0 : Nat) := by
  unfold Builtin.Range.rangeSize
  rw [if_pos (by decide), if_neg h]
  rfl
theorem small2 {a b : Int} (ha : -100000 ≤ a) (ha' : a < 100000) (hb : -100000 ≤ b) (hb' : b < 100000) : Builtin.Range.small a b 2 = true := by
  unfold Builtin.Range.small
  by_cases h : a < b
  · rw [size2 (n := ((b - a - 1) / 2 + 1).toNat) h (by omega)]
    simp only [Builtin.Range.rangeFitsLong, Bool.and_eq_true, Bool.or_eq_true, decide_eq_true_eq, beq_iff_eq, show (2 : Int) > 0 by decide, if_true]
    omega
  · rw [size2_0 h]
    simp only [Builtin.Range.rangeFitsLong, Bool.and_eq_true, Bool.or_eq_true, decide_eq_true_eq, beq_iff_eq, show (2 : Int) > 0 by decide, if_true]
    omega
/-- a, a + 2, .. : n of them -/
def upV (a : Int) (n : Nat) : List V := (List.range n).map fun i => V.int (a + (i : Nat) * 2)
theorem upV_length (a : Int) (n : Nat) : (upV a n).length = n := by rw [upV, List.length_map, List.length_range]
section
variable {X : Cx} {a b : Expr} {ta : TA}
def tLst2 (ta : TA) : TE := fun σ H Q => ta σ H fun vs H1 => ∃ (i j : Int) (n : Nat), vs = [.int i, .int j, .int 2] ∧ -100000 ≤ i ∧ i < 100000 ∧ -100000 ≤ j ∧ j < 100000 ∧ Builtin.Range.rangeSize i j 2 = n ∧ ∀ q, H1 q = none → Q (.ref q) (upd H1 q (.lst (upV i n)))
theorem pe_list2 {c : Expr} {p pos p2 pos2 : Pos} (hc : X.calm = true) (hgl : Gl X "list") (hml : X.mg "list" = none) (hgr : Gl X "range") (hmr : X.mg "range" = none) (ha : PA X [a, b, c] ta)
    (hs : starEach [a, b, c] X.env = (false, eval a X.env) :: starEach [b, c] X.env := by rfl) (hpl : (backTo pos2 (starEach [b, c] X.env)).any (·.1) = false := by rfl)
    (hs2 : starEach [Expr.Call (.Name "range" p2) [a, b, c] [] pos2] X.env = (false, eval (.Call (.Name "range" p2) [a, b, c] [] pos2) X.env) :: starEach [] X.env := by rfl) :
    PE X (.Call (.Name "list" p) [.Call (.Name "range" p2) [a, b, c] [] pos2] [] pos) (tLst2 ta) := by
  refine ⟨fun pins s σ H Q I h => ?_⟩
  refine Call_ (ld_blt I hgl hml boot_list (PyProof.Rows.callWith_type1 (args_cons ?_ hs2) hs2))
  refine Call_ (ld_blt I hgr hmr boot_range (PyProof.Rows.callWith_type1 (thn (ha.run pos2 pins s σ H _ I h) fun us s1 z => ?_) hs hpl))
  obtain ⟨vs, H1, I1, r1, i, j, n, rfl, i1, i2, j1, j2, hn, q⟩ := z
  match us, r1 with
  | [_, _, _], .cons ⟨t, rfl⟩ (.cons ⟨t', rfl⟩ (.cons ⟨t'', rfl⟩ .nil)) =>
    refine call_range_3 (by decide) (args_nil ?_) (Or.inl (PyProof.noPylong_of_log2 (by decide +kernel)))
    have I2 : Inv X pins σ H1 { s1 with heap := s1.heap.push { cls := .type "range", data := .fields #[.int i t, .int j t', .int 2 t''] } } := I1.kept (t' := s1.toks) fun b u e => Heap.get?_push_of_some _ e
    have nle : n ≤ 2 ^ 24 := by
      unfold Builtin.Range.rangeSize at hn
      rw [if_pos (by decide)] at hn
      by_cases z : i < j
      · rw [if_pos z] at hn
        omega
      · rw [if_neg z] at hn
        omega
    refine call_list_range (n := n) (I2.ok.hd hc) (IsRange.new _ _ _ _ _ _ _) (small2 i1 i2 j1 j2) hn nle fun h' tk acc c' hk e' hi => ?_
    have hv : Vals (upV i n) acc.toList := by
      have e : acc.toList.length = n := by rw [Array.length_toList]; exact hi.1
      rw [upV, ← e]
      refine vals_of_get acc.toList _ fun k u hj => ?_
      obtain ⟨y, rfl⟩ := hi.2 k u (by rw [← hj, Array.getElem?_toList])
      exact ⟨y, rfl⟩
    refine ⟨.ref _, upd H1 _ (.lst (upV i n)), I2.laid hk (Nat.le_refl _) (show ObjOk X.prog X.w _ _ _ (.lst (upV i n)) from ⟨?_, acc.toList, c', hv, ?_⟩), rfl, q _ (I2.hok.fresh (Nat.le_refl _))⟩
    · rw [upV_length, sizeLine_eq]
      omega
    · rw [Array.toArray_toList]
      exact e'
end
end TCX
/-! What the head tells of the program's exception classes. -/
namespace TCX
open PySem PySem.Spec PyProof.Rows L2
/-- what isinstance asks of the class at D -/
def excB (K : PySem.W.Frag) (D : Addr) : Bool :=
  He.eqO (PySem.W.findIn K (.ref D) "__getattribute__") (some (some (.builtin "BaseException.__getattribute__"))) && (He.eqO (PySem.W.findIn K (.ref D) "__getattr__") (some none) && (decide (PySem.W.subIn K (.ref D) (.type "BaseException") = some true) &&
    (PySem.W.hasDictIn K D && (He.eqO (PySem.W.findIn K (.ref D) "__class__") (some (some (.builtin "object.__class__"))) && (He.eqO (PySem.W.specialIn K (.builtin "object.__class__") "__get__") (some (some (.builtin "getset_descriptor.__get__"))) &&
      (decide (PySem.W.takesIn K (.builtin "object.__class__") = some true) && decide (PySem.W.mroIn K D (.type "object") = some true)))))))
theorem excB_ok {K : PySem.W.Frag} {D : Addr} (h : excB K D = true) : ExcC K D := by
  obtain ⟨h1, h⟩ := He.ba h
  obtain ⟨h2, h⟩ := He.ba h
  obtain ⟨h3, h⟩ := He.ba h
  obtain ⟨h4, h⟩ := He.ba h
  obtain ⟨h5, h⟩ := He.ba h
  obtain ⟨h6, h⟩ := He.ba h
  obtain ⟨h7, h8⟩ := He.ba h
  exact ⟨He.eqO_ok h1, He.eqO_ok h2, of_decide_eq_true h3, h4, He.eqO_ok h5, He.eqO_ok h6, of_decide_eq_true h7, of_decide_eq_true h8⟩
/-- the classes in the order in which _law_word asks for them -/
def clsN : List Str := (["Empty", "NoDeed", "NoHalf", "NoLinking", "NoNet", "NoNumber", "NoOffset", "NoQuestion", "NoRow", "NoSize", "NoStanding"] : List Str) ++ (["NoTable", "NoText", "NotParted", "NoTree", "NoTriple", "NoWay", "TooWide", "ByNought", "NoName", "NoPlace", "NothingDone"] : List Str)
def words : List Str := (["empty", "deed", "half", "linking", "net", "number", "offset", "question", "row", "size", "standing"] : List Str) ++ (["table", "text", "parted", "tree", "triple", "way", "wide", "nought", "name", "place", "done"] : List Str)
/-- of the 22 classes the at-th one alone is D's -/
def Kits (K : PySem.W.Frag) (D : Addr) (at_ : Nat) : Prop := clsN.map (fun x => PySem.W.kitOne K (.ref D) (.ref (He.ga K x))) = (List.range 22).map fun i => some (i == at_)
instance {K : PySem.W.Frag} {D : Addr} {n : Nat} : Decidable (Kits K D n) := inferInstanceAs (Decidable (_ = _))
theorem Kits.at {K : PySem.W.Frag} {D : Addr} {n : Nat} (h : Kits K D n) (i : Nat) {x : Str} (hx : clsN[i]? = some x) : PySem.W.kitOne K (.ref D) (.ref (He.ga K x)) = some (i == n) := by
  have e := congrArg (fun l : List (Option Bool) => l[i]?) h
  have hi : i < 22 := by
    obtain ⟨z, _⟩ := List.getElem?_eq_some_iff.mp hx
    exact Nat.lt_of_lt_of_eq z rfl
  simp only [List.getElem?_map, hx, Option.map_some] at e
  rw [List.getElem?_range hi] at e
  exact Option.some.inj e
structure Kind (K : PySem.W.Frag) (D : Addr) (n : Nat) : Prop where
  ec : ExcC K D
  kits : Kits K D n
  te : PySem.W.kitOne K (.ref D) (.ref (He.ga K "TurnError")) = some (decide (n < 18))
  ve : PySem.W.kitOne K (.ref D) (.type "ValueError") = some (decide (n < 18))
def excAll (K : PySem.W.Frag) (x : Str) (n : Nat) : Bool := excB K (He.ga K x) && (decide (Kits K (He.ga K x) n) && (decide (PySem.W.kitOne K (.ref (He.ga K x)) (.ref (He.ga K "TurnError")) = some (decide (n < 18))) && (decide (PySem.W.kitOne K (.ref (He.ga K x)) (.type "ValueError") = some (decide (n < 18))) &&
  decide (PySem.W.exmAny K (.ref (He.ga K x)) [.ref (He.ga K "TurnError")] = some (decide (n < 18))))))
theorem excAll_ok {K : PySem.W.Frag} {x : Str} {n : Nat} (h : excAll K x n = true) : Kind K (He.ga K x) n ∧ PySem.W.exmAny K (.ref (He.ga K x)) [.ref (He.ga K "TurnError")] = some (decide (n < 18)) := by
  obtain ⟨h1, h⟩ := He.ba h
  obtain ⟨h2, h⟩ := He.ba h
  obtain ⟨h3, h⟩ := He.ba h
  obtain ⟨h4, h5⟩ := He.ba h
  exact ⟨⟨excB_ok h1, of_decide_eq_true h2, of_decide_eq_true h3, of_decide_eq_true h4⟩, of_decide_eq_true h5⟩
/-- as Kind, of all the classes -/
structure KindF (K : PySem.W.Frag) (D : Addr) (n : Nat) : Prop where
  ec : ExcC K D
  kits : Kits K D n
  te : PySem.W.kitOne K (.ref D) (.ref (He.ga K "TurnError")) = some (decide (n < 18))
  ve : PySem.W.kitOne K (.ref D) (.type "ValueError") = some (decide (n < 18))
  kz : PySem.W.kitOne K (.ref D) (.type "ZeroDivisionError") = some (n == 18)
  ky : PySem.W.kitOne K (.ref D) (.type "KeyError") = some (n == 19)
  ki : PySem.W.kitOne K (.ref D) (.type "IndexError") = some (n == 20)
  kl : PySem.W.kitOne K (.ref D) (.type "LookupError") = some (decide (19 ≤ n))
  kt : PySem.W.kitAny K (.ref D) [.type "KeyError", .type "IndexError"] = some (n == 19 || n == 20)
  x5 : PySem.W.exmAny K (.ref D) [.ref (He.ga K "TurnError"), .ref (He.ga K "ByNought"), .ref (He.ga K "NoName"), .ref (He.ga K "NoPlace"), .ref (He.ga K "NothingDone")] = some true
def excAllF (K : PySem.W.Frag) (x : Str) (n : Nat) : Bool := excB K (He.ga K x) && (decide (Kits K (He.ga K x) n) && (decide (PySem.W.kitOne K (.ref (He.ga K x)) (.ref (He.ga K "TurnError")) = some (decide (n < 18))) && (decide (PySem.W.kitOne K (.ref (He.ga K x)) (.type "ValueError") = some (decide (n < 18))) &&
  (decide (PySem.W.kitOne K (.ref (He.ga K x)) (.type "ZeroDivisionError") = some (n == 18)) && (decide (PySem.W.kitOne K (.ref (He.ga K x)) (.type "KeyError") = some (n == 19)) && (decide (PySem.W.kitOne K (.ref (He.ga K x)) (.type "IndexError") = some (n == 20)) && (decide (PySem.W.kitOne K (.ref (He.ga K x)) (.type "LookupError") = some (decide (19 ≤ n))) &&
  (decide (PySem.W.kitAny K (.ref (He.ga K x)) [.type "KeyError", .type "IndexError"] = some (n == 19 || n == 20)) && decide (PySem.W.exmAny K (.ref (He.ga K x)) [.ref (He.ga K "TurnError"), .ref (He.ga K "ByNought"), .ref (He.ga K "NoName"), .ref (He.ga K "NoPlace"), .ref (He.ga K "NothingDone")] = some true)))))))))
theorem excAllF_ok {K : PySem.W.Frag} {x : Str} {n : Nat} (h : excAllF K x n = true) : KindF K (He.ga K x) n := by
  obtain ⟨h1, h⟩ := He.ba h
  obtain ⟨h2, h⟩ := He.ba h
  obtain ⟨h3, h⟩ := He.ba h
  obtain ⟨h4, h⟩ := He.ba h
  obtain ⟨h5, h⟩ := He.ba h
  obtain ⟨h6, h⟩ := He.ba h
  obtain ⟨h7, h⟩ := He.ba h
  obtain ⟨h8, h⟩ := He.ba h
  obtain ⟨h9, ha⟩ := He.ba h
  exact ⟨excB_ok h1, of_decide_eq_true h2, of_decide_eq_true h3, of_decide_eq_true h4, of_decide_eq_true h5, of_decide_eq_true h6, of_decide_eq_true h7, of_decide_eq_true h8, of_decide_eq_true h9, of_decide_eq_true ha⟩
/-- an own class over ZeroDivisionError -/
def zBase : List Value := [.type "ZeroDivisionError", .type "ArithmeticError", .type "Exception", .type "BaseException", .type "object"]
def excZ (K : PySem.W.Frag) (x : Str) : Bool := PySem.W.excIn K (He.ga K x) zBase "ZeroDivisionError.__new__" && (PySem.W.keepIn K (.ref (He.ga K x)) && (decide (PySem.W.subIn K (.ref (He.ga K x)) (.type "BaseException") = some true) && decide (PySem.W.typeIn K (.ref (He.ga K x)) = some (.type "type"))))
theorem excZ_ok {K : PySem.W.Frag} {x : Str} (h : excZ K x = true) : PySem.W.excIn K (He.ga K x) zBase "ZeroDivisionError.__new__" = true ∧ PySem.W.keepIn K (.ref (He.ga K x)) = true ∧ PySem.W.subIn K (.ref (He.ga K x)) (.type "BaseException") = some true ∧ PySem.W.typeIn K (.ref (He.ga K x)) = some (.type "type") := by
  obtain ⟨h1, h⟩ := He.ba h
  obtain ⟨h2, h⟩ := He.ba h
  obtain ⟨h3, h4⟩ := He.ba h
  exact ⟨h1, h2, of_decide_eq_true h3, of_decide_eq_true h4⟩
end TCX
namespace TC
open PySem PySem.Spec PyProof.Rows L2 TCX
/-! the text by places -/
def top (i : Nat) : Stmt := PySem.Challenge.pw_turncouple_k18_whole_alike_threes.main.body.getD i (.Pass ⟨0, 0, 0, 0⟩)
abbrev sWhole : Stmt := top 25
abbrev sOdd : Stmt := top 26
abbrev sIsSize : Stmt := top 29
abbrev sIsOffset : Stmt := top 30
abbrev sNeedSizes : Stmt := top 31
abbrev sNeedPairs : Stmt := top 32
abbrev sCanJoin : Stmt := top 33
abbrev sSquareOf : Stmt := top 36
abbrev sAlike3 : Stmt := top 37
abbrev sSquareOfT : Stmt := top 38
abbrev sNeedSquare : Stmt := top 39
abbrev sSquareWith : Stmt := top 40
abbrev sAllWays : Stmt := top 41
abbrev sBehind : Stmt := top 42
abbrev sExchanged : Stmt := top 43
abbrev sSignAlong : Stmt := top 44
abbrev sLeastSq : Stmt := top 45
abbrev sPen : Stmt := top 47
abbrev sDraw : Stmt := top 48
abbrev sWord : Stmt := top 49
abbrev sSaid : Stmt := top 50
abbrev sFits : Stmt := top 51
abbrev sThird : Stmt := top 52
abbrev sOddL : Stmt := top 53
abbrev sPairs : Stmt := top 54
abbrev sSizesL : Stmt := top 55
abbrev sSquareL : Stmt := top 56
abbrev sFlipL : Stmt := top 57
abbrev sOrdersL : Stmt := top 58
abbrev sFormsL : Stmt := top 59
abbrev sLeastL : Stmt := top 60
abbrev sTriple17 : Stmt := top 61
abbrev sStepL : Stmt := top 62
abbrev sStepsR : Stmt := top 63
abbrev sOtherL : Stmt := top 64
abbrev sWrongL : Stmt := top 65
abbrev sLaw : Stmt := top 66
abbrev FnP (K : PySem.W.Frag) (x : Str) (st : Stmt) (f : Addr) (fd : FuncData) : Prop := FunD K x x (defArgs st) (defBody st) (defScope st) [] [] f fd
def dd (x : Str) (st : Stmt) : He.DefD := ⟨(x, none), x, x, defArgs st, defBody st, defScope st, [], []⟩
def fn : List He.DefD := ([dd "is_whole" sWhole, dd "is_odd" sOdd, dd "is_size" sIsSize, dd "is_offset" sIsOffset, dd "need_sizes" sNeedSizes, dd "need_pairs" sNeedPairs, dd "can_join" sCanJoin, dd "square_of" sSquareOf, dd "alike_threes" sAlike3, dd "square_of_triple" sSquareOfT, dd "need_square" sNeedSquare, dd "square_with" sSquareWith, dd "all_ways" sAllWays, dd "square_behind" sBehind, dd "exchanged" sExchanged, dd "sign_along" sSignAlong] : List He.DefD) ++ ([dd "least_square" sLeastSq, dd "_law_pen" sPen, dd "_law_draw" sDraw, dd "_law_word" sWord, dd "_law_said" sSaid, dd "_law_fits" sFits, dd "_law_third" sThird, dd "_law_odd" sOddL, dd "_law_pairs" sPairs, dd "_law_sizes" sSizesL, dd "_law_square" sSquareL, dd "_law_flip" sFlipL, dd "_law_orders" sOrdersL, dd "_law_forms" sFormsL, dd "_law_least" sLeastL, dd "_law_triple" sTriple17] : List He.DefD) ++ ([dd "_law_step" sStepL, dd "_law_steps_right" sStepsR, dd "_law_other" sOtherL, dd "_law_wrong" sWrongL, dd "law" sLaw] : List He.DefD)
def fa : List He.Fa := ([.glo "TurnError", .glo "NoNumber", .glo "NoSize", .glo "NoOffset", .glo "NoTriple", .glo "NoTable", .glo "TooWide", .glo "NoNet", .glo "NoRow", .glo "NoStanding", .glo "NoTree", .glo "NoWay", .glo "NoHalf", .glo "NoLinking", .glo "NoDeed", .glo "NoQuestion"] : List He.Fa) ++ ([.glo "Empty", .glo "NotParted", .glo "NoText", .glo "NoName", .glo "NoPlace", .glo "ByNought", .glo "NothingDone", .glo "is_whole", .glo "is_odd", .glo "is_size", .glo "is_offset", .glo "need_sizes", .glo "need_pairs", .glo "can_join", .glo "square_of", .glo "alike_threes"] : List He.Fa) ++ ([.glo "square_of_triple", .glo "need_square", .glo "square_with", .glo "all_ways", .glo "square_behind", .glo "exchanged", .glo "sign_along", .glo "least_square", .glo "_law_pen", .glo "_law_draw", .glo "_law_word", .glo "_law_said", .glo "_law_fits", .glo "_law_third", .glo "_law_odd", .glo "_law_pairs"] : List He.Fa) ++ ([.glo "_law_sizes", .glo "_law_square", .glo "_law_flip", .glo "_law_orders", .glo "_law_forms", .glo "_law_least", .glo "_law_triple", .glo "_law_step", .glo "_law_steps_right", .glo "_law_other", .glo "_law_wrong", .glo "law", .int "HIGHEST_SIZE" 40, .exc "NoTriple", .exc "NoSize", .exc "NoOffset"] : List He.Fa) ++ ([.free "isinstance", .free "int", .free "bool", .free "abs", .free "list", .free "range", .free "len", .free "sum", .free "sorted", .free "tuple", .free "min", .free "max", .free "repr", .free "zip", .free "IndexError", .free "KeyError"] : List He.Fa) ++ ([.free "LookupError", .free "ValueError", .free "ZeroDivisionError"] : List He.Fa) ++ ([.glo "ORDERS"] : List He.Fa)
/-- the tuple at an address holds just these -/
def sqB (K : PySem.W.Frag) (a : Addr) (vs : List V) : Bool := match K.lookup a with
  | some ⟨.type c, _, .seq its _, _⟩ => decide (c = "tuple") && (decide (its.size ≤ sizeLine) && He.relAll vs its.toList)
  | _ => false
theorem sqB_ok {K : PySem.W.Frag} {a : Addr} {vs : List V} (h : sqB K a vs = true) (H : Hp) : SqT K H a vs := by
  unfold sqB at h
  split at h
  · rename_i c _ its n _ q
    obtain ⟨h1, h2⟩ := He.ba h
    obtain ⟨h3, h4⟩ := He.ba h2
    exact .inr ⟨_, its, n, q, congrArg Value.type (of_decide_eq_true h1), rfl, of_decide_eq_true h3, He.relAll_ok h4⟩
  · cases h
/-- where the i-th thing of a tuple lies -/
def itA (K : PySem.W.Frag) (a : Addr) (i : Nat) : Addr := match K.lookup a with
  | some ⟨_, _, .seq its _, _⟩ => (match its.toList[i]? with
    | some (.ref b) => b
    | _ => 0)
  | _ => 0
def ordersB (K : PySem.W.Frag) : Bool := (sqB K (He.ga K "ORDERS") [.ref (itA K (He.ga K "ORDERS") 0), .ref (itA K (He.ga K "ORDERS") 1), .ref (itA K (He.ga K "ORDERS") 2), .ref (itA K (He.ga K "ORDERS") 3), .ref (itA K (He.ga K "ORDERS") 4), .ref (itA K (He.ga K "ORDERS") 5)] && (sqB K (itA K (He.ga K "ORDERS") 0) [] && (sqB K (itA K (He.ga K "ORDERS") 1) [.ref (itA K (itA K (He.ga K "ORDERS") 1) 0)] && (sqB K (itA K (itA K (He.ga K "ORDERS") 1) 0) [.int 0, .int 1] && (sqB K (itA K (He.ga K "ORDERS") 2) [.ref (itA K (itA K (He.ga K "ORDERS") 2) 0)] && (sqB K (itA K (itA K (He.ga K "ORDERS") 2) 0) [.int 0, .int 2] && (sqB K (itA K (He.ga K "ORDERS") 3) [.ref (itA K (itA K (He.ga K "ORDERS") 3) 0)] && (sqB K (itA K (itA K (He.ga K "ORDERS") 3) 0) [.int 1, .int 2] && (sqB K (itA K (He.ga K "ORDERS") 4) [.ref (itA K (itA K (He.ga K "ORDERS") 4) 0), .ref (itA K (itA K (He.ga K "ORDERS") 4) 1)] && (sqB K (itA K (itA K (He.ga K "ORDERS") 4) 0) [.int 0, .int 1] && (sqB K (itA K (itA K (He.ga K "ORDERS") 4) 1) [.int 0, .int 2] && (sqB K (itA K (He.ga K "ORDERS") 5) [.ref (itA K (itA K (He.ga K "ORDERS") 5) 0), .ref (itA K (itA K (He.ga K "ORDERS") 5) 1)] && (sqB K (itA K (itA K (He.ga K "ORDERS") 5) 0) [.int 0, .int 1] && sqB K (itA K (itA K (He.ga K "ORDERS") 5) 1) [.int 1, .int 2])))))))))))))
def exB (K : PySem.W.Frag) : Bool := ordersB K && (excAll K "NoTriple" 15 && (excAll K "NoSize" 9 && excAll K "NoOffset" 6))
def tf : List He.Defn := [("law", none)]
def hk : PySem.W.Hook := He.hookX 7 fa fn [] tf exB
abbrev R : PySem.W.OpenRow := PySem.W.OpenLaw.row PySem.Challenge.rw_turncouple_k18_whole_alike_threes
def ob (s : PySem.W.SharedT) : He.AlX := He.obsX 7 fa fn [] tf exB (HandSHeadRun.getT s)
theorem ob_eq (s : PySem.W.SharedT) : ob s = hk.obs s.abs := He.obsX_eq (s := s.abs) (HandSHeadRun.getT_eq s)
def loose : List PySem.Str := (["TurnError", "NoNumber", "NoSize", "NoOffset", "NoTriple", "NoTable", "TooWide", "NoNet", "NoRow", "NoStanding", "NoTree", "NoWay", "NoHalf", "NoLinking", "NoDeed", "NoQuestion"] : List PySem.Str) ++ (["Empty", "NotParted", "NoText", "NoName", "NoPlace", "ByNought", "NothingDone", "is_whole", "is_odd", "HIGHEST_SIZE", "is_size", "is_offset", "need_sizes", "need_pairs", "can_join", "ORDERS"] : List PySem.Str) ++ (["square_of", "alike_threes", "square_of_triple", "need_square", "square_with", "all_ways", "square_behind", "exchanged", "sign_along", "least_square", "_law_pen", "_law_draw", "_law_word", "_law_said", "_law_fits", "_law_third"] : List PySem.Str) ++ (["_law_odd", "_law_pairs", "_law_sizes", "_law_square", "_law_flip", "_law_orders", "_law_forms", "_law_least", "_law_triple", "_law_step", "_law_steps_right", "_law_other", "_law_wrong"] : List PySem.Str)
end TC
namespace TC
open PySem PySem.Spec PyProof.Rows L2
theorem run (w : World) : HandSHeadRun.RunEq R (PySem.W.view R.prog [66]) hk ob 30000 loose w := by
  intro os
  kernel_rfl
end TC
/-! The mathematics, in plain Lean. -/
namespace TCM
/-! ### the greatest common divisor, by steps with Python's remainder -/
theorem gcd_fmod (a b : Int) : Int.gcd b (a.fmod b) = Int.gcd a b := by
  have e : a.fmod b = a - b * a.fdiv b := by
    have := Int.fmod_add_mul_fdiv a b
    omega
  rw [e, Int.gcd_comm a b]
  apply Nat.dvd_antisymm
  · refine Int.dvd_gcd (Int.gcd_dvd_left ..) ?_
    have h1 : ((Int.gcd b (a - b * a.fdiv b) : Nat) : Int) ∣ b := Int.gcd_dvd_left ..
    have h2 : ((Int.gcd b (a - b * a.fdiv b) : Nat) : Int) ∣ a - b * a.fdiv b := Int.gcd_dvd_right ..
    have h3 := Int.dvd_add h2 (Int.dvd_mul_of_dvd_left (c := a.fdiv b) h1)
    have e2 : a - b * a.fdiv b + b * a.fdiv b = a := by omega
    rw [e2] at h3
    exact h3
  · refine Int.dvd_gcd (Int.gcd_dvd_left ..) ?_
    have h1 : ((Int.gcd b a : Nat) : Int) ∣ b := Int.gcd_dvd_left ..
    have h2 : ((Int.gcd b a : Nat) : Int) ∣ a := Int.gcd_dvd_right ..
    exact Int.dvd_sub h2 (Int.dvd_mul_of_dvd_left (c := a.fdiv b) h1)
theorem fmod_lt (a b : Int) (h : b ≠ 0) : (a.fmod b).natAbs < b.natAbs := by
  rcases Int.lt_or_gt_of_ne h with hb | hb
  · have h1 : a.fmod b = a % b + if 0 ≤ b ∨ b ∣ a then 0 else b := Int.fmod_eq_emod
    have := Int.emod_nonneg a h
    have := Int.emod_lt_of_pos a (b := -b) (by omega)
    rw [Int.emod_neg] at this
    rw [h1]
    split
    · omega
    · rename_i z
      have : a % b ≠ 0 := fun e => z (.inr (Int.dvd_of_emod_eq_zero e))
      omega
  · have h1 := Int.fmod_nonneg_of_pos a hb
    have h2 := Int.fmod_lt_of_pos a hb
    omega
theorem abs_eq (i : Int) : (if i < 0 then -i else i) = ((i.natAbs : Nat) : Int) := by
  split <;> omega
/-! ### a fraction in lowest terms -/
def sgn (t b : Int) : Int := if b < 0 then -((Int.gcd t b : Nat) : Int) else ((Int.gcd t b : Nat) : Int)
def low (t b : Int) : Int × Int := (t.fdiv (sgn t b), b.fdiv (sgn t b))
/-- as the law says it -/
def lowL (t b : Int) : Int × Int := if 0 < b then (t.fdiv ((Int.gcd t b : Nat) : Int), b.fdiv ((Int.gcd t b : Nat) : Int)) else ((-t).fdiv ((Int.gcd t b : Nat) : Int), (-b).fdiv ((Int.gcd t b : Nat) : Int))
theorem low_eq (t b : Int) (h : b ≠ 0) : low t b = lowL t b := by
  unfold low lowL sgn
  by_cases hb : b < 0
  · rw [if_pos hb, if_neg (by omega)]
    have e1 := Int.neg_fdiv_neg (-t) ((Int.gcd t b : Nat) : Int)
    have e2 := Int.neg_fdiv_neg (-b) ((Int.gcd t b : Nat) : Int)
    rw [Int.neg_neg] at e1 e2
    rw [e1, e2]
  · rw [if_neg hb, if_pos (by omega)]
theorem gcd_pos (t b : Int) (h : b ≠ 0) : 0 < Int.gcd t b := by
  have : Int.gcd t b ≠ 0 := fun e => h (Int.gcd_eq_zero_iff.mp e).2
  omega
theorem gcd_le (t b : Int) (h : b ≠ 0) : Int.gcd t b ≤ b.natAbs := by
  show Nat.gcd t.natAbs b.natAbs ≤ b.natAbs
  exact Nat.gcd_le_right _ (by omega)
theorem sgn_ne (t b : Int) (h : b ≠ 0) : sgn t b ≠ 0 := by
  have := gcd_pos t b h
  unfold sgn
  split <;> omega
theorem sgn_abs (t b : Int) : (sgn t b).natAbs = Int.gcd t b := by
  unfold sgn
  split <;> omega
/-- the quotients are no larger -/
theorem fdiv_abs (t d : Int) (h : d ≠ 0) (hd : d ∣ t) : (t.fdiv d).natAbs ≤ t.natAbs := by
  obtain ⟨k, rfl⟩ := hd
  rw [Int.mul_fdiv_cancel_left k h, Int.natAbs_mul]
  exact Nat.le_mul_of_pos_left _ (by omega)
theorem sgn_dvd (t b : Int) : sgn t b ∣ t ∧ sgn t b ∣ b := by
  have h1 : ((Int.gcd t b : Nat) : Int) ∣ t := Int.gcd_dvd_left ..
  have h2 : ((Int.gcd t b : Nat) : Int) ∣ b := Int.gcd_dvd_right ..
  unfold sgn
  split
  · exact ⟨Int.neg_dvd.mpr h1, Int.neg_dvd.mpr h2⟩
  · exact ⟨h1, h2⟩
theorem low_abs (t b : Int) (h : b ≠ 0) : (low t b).1.natAbs ≤ t.natAbs ∧ (low t b).2.natAbs ≤ b.natAbs :=
  ⟨fdiv_abs t _ (sgn_ne t b h) (sgn_dvd t b).1, fdiv_abs b _ (sgn_ne t b h) (sgn_dvd t b).2⟩
theorem low_pos (t b : Int) (h : b ≠ 0) : 0 < (low t b).2 := by
  obtain ⟨k, hk⟩ := (sgn_dvd t b).2
  have hs := sgn_ne t b h
  have e : (low t b).2 = k := by
    show b.fdiv (sgn t b) = k
    rw [hk, ← hk]
    have e2 : b.fdiv (sgn t b) = (sgn t b * k).fdiv (sgn t b) := by rw [← hk]
    rw [e2]
    exact Int.mul_fdiv_cancel_left k hs
  rw [e]
  have g0 := gcd_pos t b h
  unfold sgn at hk
  by_cases hb : b < 0
  · rw [if_pos hb] at hk
    rcases Int.lt_trichotomy k 0 with z | z | z
    · exfalso
      have := Int.mul_nonneg_of_nonpos_of_nonpos (a := -((Int.gcd t b : Nat) : Int)) (b := k) (by omega) (by omega)
      omega
    · rw [z] at hk
      omega
    · exact z
  · rw [if_neg hb] at hk
    rcases Int.lt_trichotomy k 0 with z | z | z
    · exfalso
      have := Int.mul_nonneg (a := ((Int.gcd t b : Nat) : Int)) (b := -k) (by omega) (by omega)
      rw [Int.mul_neg] at this
      omega
    · rw [z] at hk
      omega
    · exact z
theorem low_one (t : Int) : low t 1 = (t, 1) := by
  unfold low sgn
  rw [if_neg (by decide), Int.gcd_one]
  show (t.fdiv 1, (1 : Int).fdiv 1) = (t, 1)
  rw [Int.fdiv_one]
  rfl
/-! ### squares taken out -/
/-- while n % (p * p) == 0: n //= p * p; o *= p -/
def whl : Nat → Int → Int → Int → Int × Int
  | 0, _, n, o => (n, o)
  | k + 1, p, n, o => if n % (p * p) = 0 then whl k p (n / (p * p)) (o * p) else (n, o)
/-- as squares_out goes on: over the primes, until 1 is left: (outside, inside, rest) -/
def sqL : List Int → Int → Int → Int → Int × Int × Int
  | [], n, o, i => (o, i, n)
  | p :: ps, n, o, i => if n = 1 then (o, i, n) else
    if (whl 10 p n o).1 % p = 0 then sqL ps ((whl 10 p n o).1 / p) (whl 10 p n o).2 (i * p) else sqL ps (whl 10 p n o).1 (whl 10 p n o).2 i
/-- as the law goes on: over all numbers -/
def fr : Nat → Int → Int → Int → Int × Int
  | 0, _, n, s => (s, n)
  | k + 1, p, n, s => if p * p ≤ n then fr k (p + 1) (whl 10 p n s).1 (whl 10 p n s).2 else (s, n)
theorem sq_div {n q : Int} (h0 : 0 < n) (hq : 4 ≤ q) (h : n % q = 0) : 0 < n / q ∧ n / q * 4 ≤ n ∧ n / q < n := by
  have e := Int.mul_ediv_add_emod n q
  rw [h, Int.add_zero] at e
  have h1 : 0 < n / q := by
    rcases Int.lt_or_le 0 (n / q) with z | z
    · exact z
    · have := Int.mul_le_mul_of_nonneg_left z (show 0 ≤ q by omega)
      rw [Int.mul_zero] at this
      omega
  have h2 : n / q * 4 ≤ n / q * q := Int.mul_le_mul_of_nonneg_left hq (by omega)
  rw [Int.mul_comm q] at e
  exact ⟨h1, by omega, by omega⟩
theorem pp4 {p : Int} (h : 2 ≤ p) : 4 ≤ p * p := by
  have := Int.mul_le_mul h h (by omega) (by omega)
  omega
theorem whl_ok : ∀ (k : Nat) (p n o : Int), 2 ≤ p → 0 < n → 0 < (whl k p n o).1 ∧ (whl k p n o).1 ≤ n
  | 0, p, n, o, _, h => ⟨h, Int.le_refl _⟩
  | k + 1, p, n, o, hp, h => by
    unfold whl
    split
    · rename_i z
      obtain ⟨a, b, c⟩ := sq_div h (pp4 hp) z
      obtain ⟨d, e⟩ := whl_ok k p (n / (p * p)) (o * p) hp a
      exact ⟨d, by omega⟩
    · exact ⟨h, Int.le_refl _⟩
/-- the loop's measure: whl with more fuel is the same -/
theorem whl_fuel : ∀ (k j : Nat) (p n o : Int), 2 ≤ p → 0 < n → n < 4 ^ k → whl (k + j) p n o = whl k p n o
  | 0, j, p, n, o, _, h, h2 => by
    have : n < 1 := h2
    omega
  | k + 1, j, p, n, o, hp, h, h2 => by
    rw [Nat.add_right_comm]
    show (if n % (p * p) = 0 then whl (k + j) p (n / (p * p)) (o * p) else (n, o)) = (if n % (p * p) = 0 then whl k p (n / (p * p)) (o * p) else (n, o))
    split
    · rename_i z
      obtain ⟨a, b, c⟩ := sq_div h (pp4 hp) z
      exact whl_fuel k j p _ _ hp a (by
        have e : (4 : Int) ^ (k + 1) = 4 ^ k * 4 := Int.pow_succ ..
        omega)
    · rfl
def primes : List Int := [2, 3, 5, 7, 11, 13, 17, 19, 23, 29, 31, 37, 41, 43, 47, 53, 59, 61, 67, 71, 73, 79, 83, 89, 97, 101, 103, 107, 109, 113, 127, 131, 137, 139, 149, 151, 157, 163, 167, 173, 179, 181, 191, 193, 197, 199, 211, 223, 227, 229, 233, 239, 241, 251, 257, 263, 269, 271, 277, 281, 283, 293, 307, 311, 313, 317, 331, 337, 347, 349, 353, 359, 367, 373, 379, 383, 389, 397, 401, 409, 419, 421, 431, 433, 439, 443, 449, 457, 461, 463, 467, 479, 487, 491, 499, 503, 509, 521, 523, 541, 547, 557, 563, 569, 571, 577, 587, 593, 599, 601, 607, 613, 617, 619, 631, 641, 643, 647, 653, 659, 661, 673, 677, 683, 691, 701, 709, 719, 727, 733, 739, 743, 751, 757, 761, 769, 773, 787, 797, 809, 811, 821, 823, 827, 829, 839, 853, 857, 859, 863, 877, 881, 883, 887, 907, 911, 919, 929, 937, 941, 947, 953, 967, 971, 977, 983, 991, 997]
def sqOut (n : Int) : Int × Int × Int := if n = 0 then (0, 1, 1) else sqL primes n 1 1
def free (n : Int) : Int × Int := fr 1000 2 n 1
/-- the roots that the law takes -/
def chk (r : Int) : Bool := match sqOut r, free r with
  | (o, i, m), (s, f) => decide (m = 1) && (decide (0 ≤ o) && (decide (o ≤ 1000) && (decide (1 ≤ i) && (decide (i ≤ 1000000) && (decide (r = 0) || (decide (0 < o) && (decide (s = o) && decide (f = i))))))))
def some11 : List Int := [0, 1, 4, 12, 997, 997 * 997, 2 ^ 19, 510510, 720720, 1000000, 30 * 30 * 7]
theorem chk_11 : some11.all chk = true := by decide +kernel
theorem chk_900 : (List.range 900).all (fun k => chk (1 + (k : Int))) = true := by decide +kernel
def Ok (r : Int) : Prop := 0 ≤ r ∧ r ≤ 1000000 ∧ chk r = true
theorem ok_11 {r : Int} (h : r ∈ some11) : Ok r := by
  refine ⟨?_, ?_, List.all_eq_true.mp chk_11 r h⟩
  · revert r; decide
  · revert r; decide
theorem ok_900 {d : Int} (h0 : 0 ≤ d) (h1 : d < 900) : Ok (1 + d) := by
  refine ⟨by omega, by omega, ?_⟩
  have := List.all_eq_true.mp chk_900 d.toNat (List.mem_range.mpr (by omega))
  rw [Int.toNat_of_nonneg h0] at this
  exact this
theorem Ok.all {r : Int} (h : Ok r) : (sqOut r).2.2 = 1 ∧ 0 ≤ (sqOut r).1 ∧ (sqOut r).1 ≤ 1000 ∧ 1 ≤ (sqOut r).2.1 ∧ (sqOut r).2.1 ≤ 1000000 ∧ (r ≠ 0 → 0 < (sqOut r).1 ∧ free r = ((sqOut r).1, (sqOut r).2.1)) := by
  obtain ⟨_, _, h⟩ := h
  unfold chk at h
  generalize sqOut r = a at h ⊢
  generalize free r = b at h ⊢
  obtain ⟨o, i, m⟩ := a
  obtain ⟨s, f⟩ := b
  simp only [Bool.and_eq_true, Bool.or_eq_true, decide_eq_true_eq] at h
  obtain ⟨h1, h2, h3, h4, h5, h6⟩ := h
  refine ⟨h1, h2, h3, h4, h5, fun hr => ?_⟩
  rcases h6 with h6 | ⟨h6, h7, h8⟩
  · exact absurd h6 hr
  · exact ⟨h6, by rw [h7, h8]⟩
/-- what exact comes to: no part, or one -/
def ex (top bottom root : Int) : Option (Int × Int × Int) :=
  if top * (sqOut root).1 = 0 then none else some ((sqOut root).2.1, (low (top * (sqOut root).1) bottom).1, (low (top * (sqOut root).1) bottom).2)
/-- what is due, as the law says it -/
def due (up under r : Int) : Option (Int × Int × Int) :=
  if up = 0 ∨ r = 0 then none else some ((free r).2, (lowL (up * (free r).1) under).1, (lowL (up * (free r).1) under).2)
theorem ex_due {t b r : Int} (hb : b ≠ 0) (h : Ok r) : ex t b r = due t b r := by
  obtain ⟨h1, h2, h3, h4, h5, h6⟩ := h.all
  unfold ex due
  by_cases hr : r = 0
  · subst hr
    rw [if_pos (show t * (sqOut 0).1 = 0 from Int.mul_zero _), if_pos (Or.inr rfl)]
  · obtain ⟨h7, h8⟩ := h6 hr
    rw [h8, ← low_eq _ _ hb]
    by_cases ht : t = 0
    · subst ht
      rw [if_pos (Int.zero_mul _), if_pos (Or.inl rfl)]
    · rw [if_neg (show ¬ t * (sqOut r).1 = 0 from fun e => by
        rcases Int.mul_eq_zero.mp e with e | e <;> omega), if_neg (show ¬ (t = 0 ∨ r = 0) by omega)]
theorem ok_one : Ok 1 := ok_11 (by decide)
theorem sq_one : sqOut 1 = (1, 1, 1) := by decide +kernel
theorem ex_one (t : Int) : ex t 1 1 = if t = 0 then none else some (1, t, 1) := by
  unfold ex
  rw [sq_one]
  show (if t * 1 = 0 then none else some ((1 : Int), (low (t * 1) 1).1, (low (t * 1) 1).2)) = _
  rw [Int.mul_one, low_one]
theorem ex_succ (t : Int) : ex t 1 1 ≠ ex (t + 1) 1 1 := by
  rw [ex_one, ex_one]
  split <;> split
  · omega
  · simp
  · simp
  · simp only [ne_eq, Option.some.injEq, Prod.mk.injEq, not_and]
    omega
end TCM
namespace TB
open TC PySem PySem.Spec PyProof.Rows L2 TCX
theorem iteNT {c A B : Prop} [Decidable c] (hc : ¬ c) (h : A) : if (!decide c) = true then A else B := by
  rw [decide_eq_false hc]
  exact iteT h
theorem iteD1 {c A B : Prop} [Decidable c] (hc : c) (h : A) : if decide c = true then A else B := by
  rw [decide_eq_true hc]
  exact iteT h
theorem iteD0 {c A B : Prop} [Decidable c] (hc : ¬ c) (h : B) : if decide c = true then A else B := by
  rw [decide_eq_false hc]
  exact iteF h
theorem iteB {b : Bool} {A B : Prop} (h1 : b = true → A) (h2 : b = false → B) : if b = true then A else B := by
  cases b
  · exact iteF (h2 rfl)
  · exact iteT (h1 rfl)
theorem ine {a b : Int} (h : a ≠ b) : ¬ (V.int a = V.int b) := fun e => h (V.int.inj e)
theorem same_upd {H : Hp} {p : Addr} {o : HO} (h : H p = none) : Same H (upd H p o) := fun b x e => by
  rw [upd_ne (ne_of_none e h)]
  exact e
theorem TyX.same {K : PySem.W.Frag} {H H' : Hp} {v : V} {t : Value} (h : TyX K H v t) (s : Same H H') : TyX K H' v t := by
  cases h with
  | base b =>
    cases b with
    | non => exact .base .non
    | bl y => exact .base (.bl y)
    | int i => exact .base (.int i)
    | str y => exact .base (.str y)
    | flt y => exact .base (.flt y)
    | lst e => exact .base (.lst (s _ _ e))
    | frz e => exact .base (.frz (s _ _ e))
    | tup e => exact .base (.tup (s _ _ e))
    | dK e => exact .base (.dK (s _ _ e))
    | dT e => exact .base (.dT (s _ _ e))
    | ins e cl ha hn htk hm => exact .base (.ins (s _ _ e) cl ha hn htk hm)
  | byt y => exact .byt y
  | set e => exact .set (s _ _ e)
  | kList e c => exact .kList e c
  | kTuple e c => exact .kTuple e c
  | kDict e c => exact .kDict e c
  | fTuple e => exact .fTuple (s _ _ e)
  | fDict e => exact .fDict (s _ _ e)
/-- no whole number -/
def NotInt (K : PySem.W.Frag) (H : Hp) (v : V) : Prop := ∃ (t : Value) (bi bb : Bool), TyX K H v t ∧ PySem.W.kitOne K t (.type "int") = some bi ∧ PySem.W.kitOne K t (.type "bool") = some bb ∧ (bi && !bb) = false
/-- whether v is a size -/
def Siz (K : PySem.W.Frag) (H : Hp) (v : V) (b : Bool) : Prop := (∃ n : Int, v = .int n ∧ b = (decide (0 ≤ n) && decide (n ≤ 40))) ∨ (b = false ∧ NotInt K H v)
theorem NotInt.same {K : PySem.W.Frag} {H H' : Hp} {v : V} (h : NotInt K H v) (s : Same H H') : NotInt K H' v := by
  obtain ⟨t, bi, bb, h1, h2⟩ := h
  exact ⟨t, bi, bb, TyX.same h1 s, h2⟩
theorem Siz.same {K : PySem.W.Frag} {H H' : Hp} {v : V} {b : Bool} (h : Siz K H v b) (s : Same H H') : Siz K H' v b := by
  rcases h with h | ⟨e, h⟩
  · exact .inl h
  · exact .inr ⟨e, h.same s⟩
theorem Siz.int {K : PySem.W.Frag} {H : Hp} {n : Int} (h0 : 0 ≤ n) (h1 : n ≤ 40) : Siz K H (.int n) true := .inl ⟨n, rfl, by rw [decide_eq_true h0, decide_eq_true h1]; rfl⟩
section
variable {P : Program} {w : World} {K : PySem.W.Frag} {mg : Str → Option Value} {base : Heap} {f : Addr} {fd : FuncData}
/-! ### is_whole -/
def spWhole (K : PySem.W.Frag) : Sp := fun vs H Q _ => (∃ n : Int, vs = [.int n] ∧ Q (.bl true) H) ∨ ∃ v, vs = [v] ∧ NotInt K H v ∧ Q (.bl false) H
theorem scWhole : FnScope ["thing"] ["thing"] (defScope sWhole) := ⟨rfl, rfl, rfl, by decide +kernel, rfl, by decide +kernel, by decide +kernel⟩
theorem ok_whole (F : FnP K "is_whole" sWhole f fd) (gI : mg "isinstance" = none) (gi : mg "int" = none) (gb : mg "bool" = none) : FnOk P w K mg base CX0 1 f fd ["thing"] (spWhole K) := by
  refine F.ok scWhole (fun vs H Q E h => ?_) (fun cdv A outer s H vs Q E hr h => ?_)
  · rcases h with ⟨n, rfl, _⟩ | ⟨v, rfl, _⟩ <;> rfl
  · refine ⟨_, PSs.nox (pss_one (ps_ret (pe_and (pe_callB call_isi (by rfl) gI (by decide +kernel) (pa_cons (pv 0) (pa_cons (pe_bltn (v := .ty "int") (by rfl) gi (by decide +kernel) rfl) pa_nil)))
      (pe_one (pe_not (pe_callB call_isi (by rfl) gI (by decide +kernel) (pa_cons (pv 0) (pa_cons (pe_bltn (v := .ty "bool") (by rfl) gb (by decide +kernel) rfl) pa_nil)))))))), ?_⟩
    rcases h with ⟨n, rfl, q⟩ | ⟨v, rfl, ⟨t, bi, bb, ty, ki, kb, e⟩, q⟩
    · refine ⟨_, rfl, _, _, _, _, true, rfl, .ty "int", .base (.int n), kit_ty (by decide +kernel), true, rfl, iteT ?_⟩
      exact ⟨_, rfl, _, _, _, _, false, rfl, .ty "bool", .base (.int n), kit_ty (by decide +kernel), false, rfl, q⟩
    · refine ⟨_, rfl, _, _, _, _, bi, rfl, .ty "int", ty, ki, bi, rfl, iteB (fun z => ?_) fun z => ?_⟩
      · subst z
        refine ⟨_, rfl, _, _, _, _, bb, rfl, .ty "bool", ty, kb, bb, rfl, ?_⟩
        have e2 : (!bb) = false := e
        rw [e2]
        exact q
      · exact q
/-! ### is_odd -/
def spOdd : Sp := fun vs H Q _ => ∃ n : Int, vs = [.int n] ∧ Q (.bl (decide (n % 2 = 1))) H
theorem scOdd : FnScope ["number"] ["number"] (defScope sOdd) := ⟨rfl, rfl, rfl, by decide +kernel, rfl, by decide +kernel, by decide +kernel⟩
theorem dec_int {a b : Int} : decide (V.int a = V.int b) = decide (a = b) := by
  by_cases h : a = b
  · rw [decide_eq_true h, decide_eq_true (congrArg V.int h)]
  · rw [decide_eq_false h, decide_eq_false (ine h)]
theorem ok_odd (F : FnP K "is_odd" sOdd f fd) : FnOk P w K mg base CX0 1 f fd ["number"] spOdd := by
  refine F.ok scOdd (fun vs H Q E h => ?_) (fun cdv A outer s H vs Q E hr h => ?_)
  · obtain ⟨n, rfl, _⟩ := h
    rfl
  · obtain ⟨n, rfl, q⟩ := h
    refine ⟨_, PSs.nox (pss_one (ps_ret (pe_cmpR op_eq (pe_op op_mod (pv 0) pe_int) pe_int (nomark _)))), ?_⟩
    refine ⟨_, rfl, n, 2, rfl, rfl, (show (0 : Int) < 2 by decide), rfl, ?_⟩
    rw [dec_int]
    exact q
/-! ### is_size -/
def spIsSize (K : PySem.W.Frag) : Sp := fun vs H Q _ => ∃ v b, vs = [v] ∧ Siz K H v b ∧ Q (.bl b) H
theorem scIsSize : FnScope ["thing"] ["thing"] (defScope sIsSize) := ⟨rfl, rfl, rfl, by decide +kernel, rfl, by decide +kernel, by decide +kernel⟩
theorem ok_isSize {fW : Addr} {fdW : FuncData} {t40 : Tok} (F : FnP K "is_size" sIsSize f fd) (GW : FnOk P w K mg base CX0 1 fW fdW ["thing"] (spWhole K)) (bW : L2.Binds K fdW ["thing"] []) (kW : PySem.W.keepIn K (.ref fW) = true) (gW : mg "is_whole" = some (.ref fW)) (gH : mg "HIGHEST_SIZE" = some (.int 40 t40)) :
    FnOk P w K mg base CX0 2 f fd ["thing"] (spIsSize K) := by
  refine F.ok scIsSize (fun vs H Q E h => ?_) (fun cdv A outer s H vs Q E hr h => ?_)
  · obtain ⟨v, b, rfl, _⟩ := h
    rfl
  · refine ⟨_, PSs.nox (pss_one (ps_ret (pe_and (pe_call GW hr (by rfl) gW kW bW .nil pass0 (pa_cons (pv 0) pa_nil))
      (pe_one (pe_chain op_le op_le pe_int (pv 0) (pe_glob (v := .int 40) (by rfl) gH ⟨_, rfl⟩)))))), ?_⟩
    obtain ⟨v, b, rfl, ⟨n, rfl, e⟩ | ⟨e, z⟩, q⟩ := h
    · refine ⟨_, rfl, .inl ⟨n, rfl, true, rfl, iteT ?_⟩⟩
      subst e
      refine ⟨_, rfl, 0, n, rfl, rfl, _, rfl, iteB (fun h => ?_) fun h => ?_⟩
      · rw [h] at q
        exact ⟨n, 40, rfl, rfl, q⟩
      · rw [h] at q
        exact q
    · subst e
      exact ⟨_, rfl, .inr ⟨v, rfl, z, false, rfl, iteF q⟩⟩
/-! ### need_sizes -/
def spNeed (K : PySem.W.Frag) (CS : Addr) : Sp := fun vs H Q E => ∃ (a : Addr) (xs : List V) (bs : List Bool), vs = [.ref a] ∧ SqL K H a xs ∧ Paired (Siz K H) xs bs ∧ (bs.all id = true → Q .non H) ∧ (bs.all id = false → E (.ref CS) none H)
theorem scNeed : FnScope ["things", "thing"] ["things"] (defScope sNeedSizes) := ⟨rfl, rfl, rfl, by decide +kernel, rfl, by decide +kernel, by decide +kernel⟩
/-- what the program's text says of an exception class without fields -/
structure XTxt (K : PySem.W.Frag) (mg : Str → Option Value) (x : Str) (C : Addr) : Prop where
  g : mg x = some (.ref C)
  e : PySem.W.excIn K C He.veBase "ValueError.__new__" = true
  k : PySem.W.keepIn K (.ref C) = true
  b : PySem.W.subIn K (.ref C) (.type "BaseException") = some true
  t : PySem.W.typeIn K (.ref C) = some (.type "type")
theorem paired_at {α β : Type} {R : α → β → Prop} : ∀ {xs : List α} {ys : List β}, Paired R xs ys → ∀ (i : Nat) (x : α), xs[i]? = some x → ∃ y, ys[i]? = some y ∧ R x y
  | _, _, .nil, i, x, h => by cases h
  | _, _, .cons r t, 0, x, h => by
    cases h
    exact ⟨_, rfl, r⟩
  | _, _, .cons r t, i + 1, x, h => paired_at t i x h
theorem paired_len {α β : Type} {R : α → β → Prop} : ∀ {xs : List α} {ys : List β}, Paired R xs ys → xs.length = ys.length
  | _, _, .nil => rfl
  | _, _, .cons r t => congrArg (· + 1) (paired_len t)
theorem all_take {bs : List Bool} {i : Nat} {b : Bool} (h : (bs.take i).all id = true) (hb : bs[i]? = some b) (h2 : b = true) : (bs.take (i + 1)).all id = true := by
  rw [List.take_add_one, List.all_append, h, hb]
  subst h2
  rfl
theorem all_false {bs : List Bool} {i : Nat} (hb : bs[i]? = some false) : bs.all id = false := by
  refine List.all_eq_false.mpr ⟨false, List.mem_of_getElem? hb, fun z => Bool.noConfusion z⟩
theorem ok_need {fS CS : Addr} {fdS : FuncData} (F : FnP K "need_sizes" sNeedSizes f fd) (GS : FnOk P w K mg base CX0 2 fS fdS ["thing"] (spIsSize K)) (bS : L2.Binds K fdS ["thing"] []) (kS : PySem.W.keepIn K (.ref fS) = true) (gS : mg "is_size" = some (.ref fS)) (T : XTxt K mg "NoSize" CS) :
    FnOk P w K mg base (L2.CX P w) 3 f fd ["things"] (spNeed K CS) := by
  refine F.ok scNeed (fun vs H Q E h => ?_) (fun cdv A outer s H vs Q E hr h => ?_)
  · obtain ⟨a, xs, bs, rfl, _⟩ := h
    rfl
  · obtain ⟨a, xs, bs, rfl, hS, hp, hq, he⟩ := h
    refine ⟨_, pss_one (ps_for (passes_of rfl) rfl (pi_list (pv 0)) (pg_name (i := 1) scNeed.nd rfl (.inl rfl))
      (pss_one (ps_if (pt_not (pt_val (pe_call GS hr (by rfl) gS kS bS .nil pass0 (pa_cons (pv 1) pa_nil))))
        (pss_one (ps_raise rfl (takes_of rfl rfl rfl rfl) (pmk_own PySem.F.excBase_ValueError T.e T.g T.k (raises_own T.b T.t) rfl))) pss_nil))), ?_⟩
    refine ⟨_, rfl, a, rfl, ⟨_, hS⟩, for_list (K := K) (a := a) (xs := xs) (fun i σ H' => (∃ y, σ = [some (.ref a), y]) ∧ H' = H ∧ (bs.take i).all id = true) ⟨⟨none, rfl⟩, rfl, rfl⟩ (fun i σ H' _ z => by rw [z.2.1]; exact hS) (fun i x σ H' hx z => ?_) (fun σ H' z => ?_)⟩
    · obtain ⟨⟨y, rfl⟩, rfl, hb⟩ := z
      obtain ⟨b, hbi, hs⟩ := paired_at hp i x hx
      refine ⟨_, rfl, x, b, rfl, hs, b, rfl, ?_⟩
      cases b with
      | true => exact iteF ⟨⟨_, rfl⟩, rfl, all_take hb hbi rfl⟩
      | false => exact iteT (he (all_false hbi))
    · obtain ⟨⟨y, rfl⟩, rfl, hb⟩ := z
      rw [paired_len hp, List.take_length] at hb
      exact hq hb
end
end TB
/-! repr of lists of ints; the end of a law whose own def asks repr. -/
namespace TCX
open PySem PySem.Spec PyProof.Rows L2
/-! ### data of lists of ints -/
def dInts (ns : List Int) : List PyData := ns.map PyData.int
theorem dpAll_ints {K : PySem.W.Frag} {H : Hp} : ∀ ns : List Int, DpAll K H (ns.map V.int) (dInts ns)
  | [] => .nil
  | n :: r => .cons (.int n) (dpAll_ints r)
theorem dp_ints {K : PySem.W.Frag} {H : Hp} {a : Addr} {ns : List Int} (h : H a = some (.lst (ns.map V.int))) : Dp K H (.ref a) (.list (dInts ns)) := .lst (SqL.of h) (dpAll_ints ns)
theorem log_small {i : Int} (h : i.natAbs < 10 ^ 9) : i.natAbs.log2 < 30 := Nat.lt_of_lt_of_le (PySem.Flt.log2_lt_of (show 0 < 30 by decide) (Nat.lt_trans h (by decide))) (by decide)
theorem ints_show : ∀ ns : List Int, (∀ n ∈ ns, n.natAbs < 10 ^ 9) → PyData.showableAll (dInts ns) = true ∧ PyData.hasDictAll (dInts ns) = false ∧ PyData.depthAll (dInts ns) = 0 ∧ PyData.leavesShortAll 13 (dInts ns) = true ∧ PyData.weightAll (dInts ns) ≤ 40 * ns.length
  | [], _ => ⟨rfl, rfl, rfl, rfl, Nat.le_refl _⟩
  | n :: r, h => by
    obtain ⟨h1, h2, h3, h4, h5⟩ := ints_show r fun m hm => h m (List.mem_cons_of_mem _ hm)
    have hn := h n List.mem_cons_self
    have hl := log_small hn
    refine ⟨?_, ?_, ?_, ?_, ?_⟩
    · show (PyData.showable (.int n) && PyData.showableAll (dInts r)) = true
      rw [h1, Bool.and_true]
      simp only [PyData.showable, decide_eq_true_eq]
      omega
    · show (PyData.hasDict (.int n) || PyData.hasDictAll (dInts r)) = false
      rw [h2]
      rfl
    · show max (PyData.depth (.int n)) (PyData.depthAll (dInts r)) = 0
      rw [h3]
      rfl
    · show (PyData.leavesShort 13 (.int n) && PyData.leavesShortAll 13 (dInts r)) = true
      rw [h4, Bool.and_true]
      exact decide_eq_true (PyData.shown_int_le (Nat.lt_trans hn (by decide)))
    · show PyData.weight (.int n) + 1 + PyData.weightAll (dInts r) ≤ 40 * (r.length + 1)
      have : PyData.weight (.int n) ≤ 31 := by
        show (if n == 0 then 0 else n.natAbs.log2 + 1) ≤ 31
        split <;> omega
      omega
structure Shows (d : PyData) : Prop where
  s : d.showable = true
  h : d.hasDict = false
  dp : d.depth ≤ 60
  z : d.shown.length ≤ sizeLine
theorem shows_ints {ns : List Int} (h : ∀ n ∈ ns, n.natAbs < 10 ^ 9) (hl : ns.length ≤ 10000) : Shows (.list (dInts ns)) := by
  obtain ⟨h1, h2, h3, h4, h5⟩ := ints_show ns h
  refine ⟨h1, h2, ?_, PyData.shown_fits (B := 13) (by decide) (by decide) (d := .list (dInts ns)) h4 ?_⟩
  · show PyData.depthAll (dInts ns) + 1 ≤ 60
    omega
  · show PyData.weightAll (dInts ns) ≤ 2 ^ 20
    omega
/-! ### the end of a law, by FnG -/
section
variable {P : Program} {w : World} {K : PySem.W.Frag} {mg mb : Str → Option Value} {CX : CXT} {k : Nat} {fa a : Addr} {cs : List (Addr × Addr)} {fd : FuncData} {x : Str} {sp : Sp} {s₁ : Shared} {vs : List Value} {ns : List Int}
/-- the script (where K doesn't hold it) and the tables are tracked at the law's call -/
def hLaw (K : PySem.W.Frag) (T : List Addr) (a : Addr) (ob : Obj) (xs : List V) : Hp := fun b =>
  if b ∈ T then some (.tbl #[]) else if b = a ∧ K.lookup a = none then some (.frz ob (.lst xs)) else none
theorem hLaw_tab {T : List Addr} {ob : Obj} {xs : List V} {b : Addr} (h : b ∈ T) : hLaw K T a ob xs b = some (.tbl #[]) := if_pos h
theorem hLaw_inv {T : List Addr} {ob : Obj} {xs : List V} {b : Addr} {u : HO} (h : hLaw K T a ob xs b = some u) : (b ∈ T ∧ u = .tbl #[]) ∨ (b = a ∧ K.lookup a = none ∧ u = .frz ob (.lst xs)) := by
  unfold hLaw at h
  by_cases hT : b ∈ T
  · rw [if_pos hT] at h
    exact .inl ⟨hT, (Option.some.inj h).symm⟩
  · rw [if_neg hT] at h
    by_cases ha : b = a ∧ K.lookup a = none
    · rw [if_pos ha] at h
      exact .inr ⟨ha.1, ha.2, (Option.some.inj h).symm⟩
    · rw [if_neg ha] at h
      cases h
theorem law_callG (KX : K.In s₁.heap) (hns : s₁.heap.Ns mainGlobals mg) (hb : s₁.heap.Ns builtinsNs mb) (hbb : ∀ x : Str, x ≠ "__name__" → mb x = bootBuiltins x) (hlim : s₁.heap.NoLimit) (hg : s₁.gens = #[])
    (hT : ∀ p ∈ cs, s₁.heap.get? p.2 = some { cls := .none, data := .fields #[] }) (nT : ∀ p ∈ cs, K.lookup p.2 = none) (C : ∀ p ∈ cs, PySem.W.CodeHd s₁.heap p.1 p.2)
    (hbm : ∃ (bm : Addr) (ob : Obj), mg "__builtins__" = some (.ref bm) ∧ bm ≠ builtinsNs ∧ s₁.heap.get? bm = some ob ∧ ob.cls = .type "module" ∧ ob.dict = some builtinsNs ∧ ob.data = .plain)
    (ha : s₁.heap.get? a = some { cls := .type "list", data := .seq vs.toArray }) (hi : IntsAre vs ns) (hl : ns.length ≤ sizeLine) (hr : Room k callerA)
    (F : ∀ base : Heap, K.In base → base.Ns mainGlobals mg → (∀ p ∈ cs, LamX.TabB base mg p.1 p.2) → FnG P w K mg base CX k fa fd [x] sp) (hbind : ∀ (s : Shared) (u : Value), BindsTo s fd ⟨[u], []⟩ [(x, u)])
    (hsp : ∀ H : Hp, (∀ p ∈ cs, H p.2 = some (.tbl #[])) → SqL K H a (ns.map V.int) → sp [.ref a] H (fun v _ => v = .bl true) fun _ _ _ => False)
    (hCX : ∀ H e s', CX [] H s₁ (fun _ _ _ => False) e s' → False) :
    codeAny (model P w) callerA (.call (.ref fa) ⟨[.ref a], []⟩) (fun r s' => r = .ok (.ret (.bool true)) ∧ OldK s₁.heap s'.heap ∧ s'.os = s₁.os ∧ AllBare s'.gens) s₁ := by
  have rv := vals_ints hi
  have lenV := hi.length
  obtain ⟨T, eT⟩ : ∃ T : List Addr, cs.map (·.2) = T := ⟨_, rfl⟩
  have tIn : ∀ p ∈ cs, p.2 ∈ T := fun p hp => by
    rw [← eT]
    exact List.mem_map.mpr ⟨p, hp, rfl⟩
  have tOut : ∀ b, b ∈ T → ∃ p ∈ cs, p.2 = b := fun b h => by
    rw [← eT] at h
    exact List.mem_map.mp h
  have tGet : ∀ b, b ∈ T → s₁.heap.get? b = some { cls := .none, data := .fields #[] } := fun b h => by
    obtain ⟨p, hp, rfl⟩ := tOut b h
    exact hT p hp
  have aOut : a ∉ T := fun z => by
    have q := ha.symm.trans (tGet a z)
    cases q
  obtain ⟨H, eH⟩ : ∃ H : Hp, hLaw K T a { cls := .type "list", data := .seq vs.toArray } (ns.map V.int) = H := ⟨_, rfl⟩
  have inv : ∀ {b : Addr} {u : HO}, H b = some u → (b ∈ T ∧ u = .tbl #[]) ∨ (b = a ∧ K.lookup a = none ∧ u = .frz { cls := .type "list", data := .seq vs.toArray } (.lst (ns.map V.int))) := fun h => by
    rw [← eH] at h
    exact hLaw_inv h
  have hH : ∀ p ∈ cs, H p.2 = some (.tbl #[]) := fun p hp => by
    rw [← eH]
    exact hLaw_tab (tIn p hp)
  have hS : SqL K H a (ns.map V.int) := by
    cases hk : K.lookup a with
    | none => exact .inl (.inr ⟨_, by rw [← eH]; exact (if_neg aOut).trans (if_pos ⟨rfl, hk⟩)⟩)
    | some o =>
      have e := (KX a o hk).symm.trans ha
      cases e
      exact .inr ⟨_, vs.toArray, _, hk, rfl, rfl, rfl, by rw [List.size_toArray, lenV]; exact hl, by simpa using rv⟩
  have hok : HOk P w H s₁.heap := fun b u e => by
    rcases inv e with ⟨h1, rfl⟩ | ⟨rfl, _, rfl⟩
    · exact tGet b h1
    · exact ⟨ha, by rw [List.length_map]; exact hl, vs, _, rv, ha⟩
  -- what is neither the script nor a table isn't tracked
  have off : ∀ {b : Addr} {o : Obj}, s₁.heap.get? b = some o → (∀ us n, o.data ≠ .seq us n) → o.data ≠ .fields #[] → H b = none := fun {b o} e h1 h2 => by
    cases q : H b with
    | none => rfl
    | some u =>
      rcases inv q with ⟨g1, _⟩ | ⟨rfl, _, _⟩
      · rw [tGet b g1] at e
        cases e
        exact absurd rfl h2
      · rw [ha] at e
        cases e
        exact absurd rfl (h1 _ _)
  have nsK : ∀ {b : Addr} {m : Str → Option Value}, s₁.heap.Ns b m → (hidT s₁.heap H).Ns b m := fun {b m} z => by
    obtain ⟨o, es, ep, e, d, r⟩ := z
    exact ⟨o, es, ep, hidT_get e (off e (fun us n y => by rw [d] at y; cases y) fun y => by rw [d] at y; cases y), d, r⟩
  have hKb : K.In (hidT s₁.heap H) := fun b o e => hidT_get (KX b o e) (by
    cases q : H b with
    | none => rfl
    | some u =>
      rcases inv q with ⟨g1, _⟩ | ⟨rfl, g2, _⟩
      · obtain ⟨p, hp, rfl⟩ := tOut b g1
        rw [nT p hp] at e
        cases e
      · rw [g2] at e
        cases e)
  have hM : L2.Mod K mg (hidT s₁.heap H) := ⟨hKb, nsK hns, ⟨mb, nsK hb, hbb⟩, let ⟨mc, h1, h2⟩ := hlim; ⟨mc, nsK h1, h2⟩⟩
  have TB : ∀ p ∈ cs, LamX.TabB (hidT s₁.heap H) mg p.1 p.2 := fun p hp => by
    have hTp := hT p hp
    refine ⟨?_, ?_, fun z => ?_⟩
    · obtain ⟨o, us, file, tf, flags, tg, inF, text, tt, e1, r1, r2, r3, r4⟩ := C p hp
      exact ⟨o, us, file, tf, flags, tg, inF, text, tt, hidT_get e1 (off e1 (fun _ _ z => by rw [r2] at z; cases z) fun z => by
        rw [r2] at z
        cases z
        simp at r3), r1, r2, r3, r4⟩
    · obtain ⟨bm, ob, b1, b2, b3, b4, b5, b6⟩ := hbm
      refine ⟨bm, ob, b1, b2, fun y => ?_, fun y => ?_, hidT_get b3 (off b3 (fun _ _ z => by rw [b6] at z; cases z) fun z => by rw [b6] at z; cases z), b4, b5, b6⟩
      · obtain ⟨o, es, ep, e, hd, _⟩ := hns
        rw [y, e] at b3
        cases b3
        rw [hd] at b6
        cases b6
      · rw [y, hTp] at b3
        cases b3
        cases b6
    · obtain ⟨o, es, ep, e, hd, _⟩ := hns
      rw [z, hTp] at e
      cases e
      cases hd
  have e0 : Env0 P w K mg (hidT s₁.heap H) callerA [] s₁ H := ⟨rfl, hM, fun b o e => of_hidT e, Nat.le_of_eq (hidT_size _ _), trivial, fun b hb => absurd (show b ∈ ([] : List Addr) from hb) (by simp), hok, .of_eq hg⟩
  refine codeAny_mono ((F _ hKb (nsK hns) TB).grun callerA [] s₁ H ⟨[.ref a], []⟩ [.ref a] [.ref a] _ _ rfl hr e0 (hbind s₁ (.ref a)) (.cons rfl .nil) (hsp H hH hS)) fun r s' h => ?_
  match r, h with
  | .error e, h => exact (hCX H e s' h).elim
  | .ok .next, h => exact False.elim h
  | .ok .brk, h => exact False.elim h
  | .ok .cont, h => exact False.elim h
  | .ok (.ret u), h =>
    obtain ⟨v, H', os, bare, un, hok', r', q'⟩ := h
    cases (show v = .bl true from q')
    cases (show u = Value.bool true from r')
    have noF : ∀ b : Addr, b ∉ frs ([] : List Env) := fun b z => nomatch (show b ∈ ([] : List Addr) from z)
    have key : ∀ b o, b ∉ T → s₁.heap.get? b = some o → s'.heap.get? b = some o := fun b o nb e => by
      cases q : H b with
      | none => exact un.keep b o e q (noF b) (fun z => nomatch z)
      | some u =>
        rcases inv q with ⟨g1, _⟩ | ⟨rfl, _, rfl⟩
        · exact absurd g1 nb
        · obtain ⟨e2, _⟩ := hok' b _ (un.frzs b _ _ q)
          rw [ha] at e
          cases e
          exact e2
    have grown : ∀ p ∈ cs, ∃ more : Array Value, s'.heap.get? p.2 = some { cls := .none, data := .fields more } := fun p hp => by
      obtain ⟨more, z⟩ := un.tbls p.2 #[] (hH p hp)
      exact ⟨_, hok' p.2 _ z⟩
    refine ⟨rfl, ⟨fun b o e => ?_, fun b o e => ?_⟩, os, bare⟩
    · by_cases hb : b ∈ T
      · obtain ⟨p, hp, rfl⟩ := tOut b hb
        obtain ⟨more, hm⟩ := grown p hp
        rw [hT p hp] at e
        cases e
        exact .inr (.inl ⟨((C p hp).tab (hT p hp)).isCodeTable, rfl, #[], more, rfl, by rw [Array.empty_append]; exact hm⟩)
      · exact .inl (key b o hb e)
    · by_cases hb : b ∈ T
      · obtain ⟨p, hp, rfl⟩ := tOut b hb
        obtain ⟨more, hm⟩ := grown p hp
        exact ⟨_, hm⟩
      · exact ⟨o, key b o hb e⟩
end
/-- what is known of the law's promise at the head's heap -/
def LawAtG (l : PySem.W.OpenLaw) (w : World) (K : PySem.W.Frag) (CX : CXT) (k n : Nat) (x : Str) (mg : Str → Option Value) (fa : Addr) (h : Heap) : Prop :=
  ∃ (fd : FuncData) (cs : List (Addr × Addr)) (sp : Sp), (∀ p ∈ cs, h.get? p.2 = some { cls := .none, data := .fields #[] }) ∧ (∀ p ∈ cs, K.lookup p.2 = none) ∧ (∀ p ∈ cs, PySem.W.CodeHd h p.1 p.2) ∧ (∀ (s : Shared) (u : Value), BindsTo s fd ⟨[u], []⟩ [(x, u)]) ∧
    (∀ (H : Hp) (a : Addr) (ns : List Int), ns.length ≤ n → (∀ p ∈ cs, H p.2 = some (.tbl #[])) → SqL K H a (ns.map V.int) → sp [.ref a] H (fun v _ => v = .bl true) fun _ _ _ => False) ∧
    ∀ base : Heap, K.In base → base.Ns mainGlobals mg → (∀ p ∈ cs, LamX.TabB base mg p.1 p.2) → FnG l.prog w K mg base CX k fa fd [x] sp
theorem walk_ofG {l : PySem.W.OpenLaw} {n k : Nat} {q : Program} {loose : List Str} {XP : (Str → Option Value) → Heap → Prop} {YP : World → Heap → Prop} {d : DefRec} {CX : World → CXT} {x : Str}
    (hn : l.most = some n) (hn2 : n ≤ sizeLine) (hdf : d.params.defaults = []) (hr : Room k callerA)
    (F : ∀ (w : World) (mg : Str → Option Value) (fa : Addr) (h : Heap), YP w h → h.Ns mainGlobals mg → mg d.name = some (.ref fa) → ∃ K : PySem.W.Frag, K.In h ∧ LawAtG l w K (CX w) k n x mg fa h)
    (hCX : ∀ (w : World) (H : Hp) (s : Shared) (e : Value) (s' : Shared), CX w [] H s (fun _ _ _ => False) e s' → False) :
    PySem.W.WalkO q loose XP YP l.row.toRowW d [] (fun f vs => PySem.call f vs) := by
  refine Att.attach_callB hn hdf fun w s₀ s₁ mg mb fa o pm cd doc a vs ns G Y ho hd hcd hmg hobj hints hlen hbits hg => ?_
  obtain ⟨K, KX, fd, cs, sp, hT, nT, C, hb, hsp, hF⟩ := F w mg fa _ Y G.T.g hmg
  exact law_callG KX G.T.g G.T.b G.T.builtins G.T.nolimit hg hT nT C G.T.bmain hobj hints (Nat.le_trans hlen hn2) hr hF hb (fun H hH hS => hsp H a ns hlen hH hS) fun H e s' => hCX w H s₁ e s'
end TCX
/-! Rules of my own: == and != by an own __eq__ with either answer, str of an instance, enumerate of a tuple. -/
namespace TCA
open PySem PySem.Spec PyProof.Rows L2
/-! ### enumerate(tuple) -/
theorem meets_enum1 {v : Value} {o : Obj} {H : Heap → Prop} (B : Begins v o H) :
    Meets (Builtin.«enumerate.__new__» ⟨[.type "enumerate", v], []⟩) (fun _ R s => H s.heap ∧
      R (.ok (.ret (.ref (s.heap.push o).objs.size))) { s with heap := (s.heap.push o).push { cls := .type "enumerate", data := .fields #[.none, .bool false, .ref s.heap.objs.size, rawInt 0, .none, .none] } }) :=
  .of_wp fun prog w A R s h => by
    obtain ⟨hp, g, d, tk, os⟩ := s; obtain ⟨h1, h⟩ := h
    have hsub := sub_enumerate
    have q1 : ∀ {A' : Around} {E : Value → Shared → Prop} {Q : Value → Shared → Prop}, Q (.ref hp.objs.size) ⟨hp.push o, g, d, tk, os⟩ → wpAny (model prog w) A' (pyIter v) Q E ⟨hp, g, d, tk, os⟩ :=
      fun q => B.iter prog w _ _ ⟨hp, g, d, tk, os⟩ _ h1 q
    wp_walk using q1
    refine wpAny_stack_any fun st => wpAny_pure ?_
    split
    · rename_i c _ _ _ _ _
      cases (c == Value.type "enumerate")
      · wp_walk using q1
        exact ⟨_, rfl, h⟩
      · wp_walk using q1
        exact ⟨_, rfl, h⟩
    · wp_walk using q1
      exact ⟨_, rfl, h⟩
theorem enum_begins1 {prog : Program} {w : World} {A : Around} {E : Value → Shared → Prop} {s : Shared} {v : Value} {o : Obj} {H : Heap → Prop} {Q : Value → Shared → Prop} (B : Begins v o H) (h1 : H s.heap)
    (h : ∀ h', IsEnum h' (s.heap.objs.size + 1) s.heap.objs.size 0 .none → h'.get? s.heap.objs.size = some o → h'.objs.size = s.heap.objs.size + 2 →
      (∀ b o, s.heap.get? b = some o → h'.get? b = some o) → Q (.ref (s.heap.objs.size + 1)) { s with heap := h' }) :
    wpAny (model prog w) A (call (.type "enumerate") [v]) Q E s := by
  refine callType_new F.called_enumerate (by decide) (F.typeCall_enumerate_1 _) (F.newCall_enumerate_1 _) (fun obj => F.args_object_init_2 obj _) F.entry_enumerate_new
    (meets_enum1 B) ⟨h1, ?_⟩
  have hz : (s.heap.push o).objs.size = s.heap.objs.size + 1 := Heap.size_push ..
  show _ ∧ _
  rw [hz]
  have he : IsEnum ((s.heap.push o).push { cls := .type "enumerate", data := .fields #[.none, .bool false, .ref s.heap.objs.size, rawInt 0, .none, .none] }) (s.heap.objs.size + 1) s.heap.objs.size 0 .none := by
    have := Heap.get?_push_size (s.heap.push o) (o := { cls := .type "enumerate", data := .fields #[.none, .bool false, .ref s.heap.objs.size, rawInt 0, .none, .none] }) rfl
    rw [hz] at this; exact this
  refine ⟨⟨_, he, rfl⟩, h _ he (Heap.get?_push_of_some _ (Heap.get?_push_size _ B.free)) (by rw [Heap.size_push, hz]) fun b o x => Heap.get?_push_of_some _ (Heap.get?_push_of_some _ x)⟩
/-- the tuple at a of xs, each item in a new pair -/
def Iet (K : PySem.W.Frag) (a : Addr) (xs : List V) : It :=
  ⟨fun i H => i < xs.length ∧ SqT K H a xs, fun i H v H' => ∃ T x, v = .ref T ∧ H T = none ∧ H' = upd H T (.tup [.int (i : Nat), x]) ∧ xs[i]? = some x, fun i H => xs.length ≤ i ∧ SqT K H a xs⟩
theorem turn_enumT {P : Program} {w : World} {K : PySem.W.Frag} {elts : List Expr} {kk : Nat} {tpos : Pos} (a e it : Addr) (xs : List V) :
    Turn P w K (.Tuple elts kk tpos) (Iet K a xs) [e, it] e (fun i h => (∃ old, IsEnum h e it ((i : Nat) : Int) old) ∧ h.IsTupleIter it a i ∧ e ≠ it ∧ a ≠ it ∧ e ≠ a ∧ i ≤ xs.length) where
  mem := by simp
  obj := fun i h st b hb => by
    obtain ⟨⟨old, he⟩, ⟨o, ho, hc, hd⟩, _⟩ := st
    have e' : b = e ∨ b = it := by simpa using hb
    rcases e' with z | z
    · rw [z]; exact ⟨_, he, fun v q => nomatch q⟩
    · rw [z]; exact ⟨o, ho, fun v q => by rw [hd] at q; cases q⟩
  keep := fun i h h' st k => let ⟨⟨old, he⟩, hi, hne⟩ := st; ⟨⟨old, k e (by simp) _ he⟩, hi.at fun o q => k it (by simp) o q, hne⟩
  item := by
    intro X hP hw hK hc i pins s σ H E I hf st hg
    subst hP hw hK
    obtain ⟨⟨old, he⟩, hit, hne, hai, hea, hle⟩ := st
    obtain ⟨hlt, hq⟩ := hg
    obtain ⟨its, rv, p, hz⟩ := I.tuple hq
    have hl := rv.length
    have hel : e < s.heap.objs.size := Heap.lt_size he
    have hil : it < s.heap.objs.size := by obtain ⟨_, q, _⟩ := hit; exact Heap.lt_size q
    have hh : X.A.in1.handled = none := I.ok.hd hc
    have D := Draws.tuple (prog := X.prog) (w := X.w) hh it a hai its.toArray
    refine wpAny_pyNext_enum_itemD D he ⟨hit, p⟩ (by simp; omega) hne (by simp; exact ⟨hne, hea⟩) fun u h' tk hu ho hst hT hsz hk => ?_
    obtain ⟨hit', _⟩ := hst
    have hu2 : its[i]? = some u := by simpa using hu
    have hx : xs[i]? = some xs[i] := List.getElem?_eq_getElem hlt
    obtain ⟨u2, hu3, ru⟩ := rv.get hx
    have eu : u2 = u := Option.some.inj (hu3.symm.trans hu2)
    subst eu
    refine ⟨_, rfl, wpAny_letOwnedTupleGo_enum (s := { s with heap := h', toks := tk + 1 }) ho fun h'' he' sb => ?_⟩
    have hT2 : h''.get? s.heap.objs.size = some { cls := .type "tuple", data := .seq #[.int i tk, u2] } := (sb.2 _ (Nat.ne_of_gt hel)).trans hT
    have new : ObjOk X.prog X.w (upd H s.heap.objs.size (.tup [.int (i : Nat), xs[i]])) h'' s.heap.objs.size (.tup [.int (i : Nat), xs[i]]) :=
      ⟨by show 2 ≤ sizeLine; decide, [.int i tk, u2], .cons ⟨_, rfl⟩ (.cons ru .nil), ⟨_, hT2, rfl, _, rfl⟩⟩
    have I1 : Inv X pins σ (upd H s.heap.objs.size (.tup [.int (i : Nat), xs[i]])) { s with heap := h'', toks := tk + 1 } :=
      I.turnedNew (ch := [e, it]) (fun b ob hb q => (sb.2 b (fun z => hb (by simp [z]))).trans (hk b ob (fun z => hb (by simp [z])) (fun z => hb (by simp [z])) q)) hf (Nat.le_refl _) new
    refine ⟨.ref s.heap.objs.size, _, I1, rfl, ⟨_, xs[i], rfl, I.hok.fresh (Nat.le_refl _), rfl, hx⟩, ⟨⟨u2, ?_⟩, hit'.at fun o q => (sb.2 it (Ne.symm hne)).trans q, hne, hai, hea, hlt⟩, fun b hb => ?_⟩
    · have e1 : ((i + 1 : Nat) : Int) = (i : Int) + 1 := by omega
      rw [e1]; exact he'
    · have hb' : b < s.heap.objs.size := by
        have e' : b = e ∨ b = it := by simpa using hb
        rcases e' with z | z
        · rw [z]; exact hel
        · rw [z]; exact hil
      rw [upd_ne (Nat.ne_of_lt hb')]
      exact (hf b hb).1
  done := by
    intro X hP hw hK hc i pins s σ H E I hf st hg
    subst hP hw hK
    obtain ⟨⟨old, he⟩, hit, hne, hai, hea, hle⟩ := st
    obtain ⟨hge, hq⟩ := hg
    obtain ⟨its, rv, p, hz⟩ := I.tuple hq
    obtain ⟨f0, f1, f2, f3, f4, f5⟩ := hf it (by simp)
    have hl := rv.length
    have hh : X.A.in1.handled = none := I.ok.hd hc
    have D := Draws.tuple (prog := X.prog) (w := X.w) hh it a hai its.toArray
    have ei : i = its.toArray.size := by simp; omega
    subst ei
    exact wpAny_pyNext_enum_endD D he ⟨hit, p⟩ fun h' eb => ⟨rfl, I.turned (t' := s.toks) (fun b o hb q => eb b o hb q) f0 f1 f3 f4 f5⟩
  self := fun A i s Q E st h => let ⟨⟨_, he⟩, _⟩ := st; wpAny_pyIter_enum he h
def iEnumT (K : PySem.W.Frag) (ta : TA) : TI := fun σ H R => ta σ H fun vs H1 => ∃ a xs, vs = [.ref a] ∧ SqT K H1 a xs ∧ R (Iet K a xs) H1
theorem pi_enumT {X : Cx} {e : Expr} {ta : TA} {p pos tpos : Pos} {elts : List Expr} {kk : Nat} (hg : Gl X "enumerate") (hm : X.mg "enumerate" = none) (ha : PA X [e] ta) (hs : starEach [e] X.env = [(false, eval e X.env)] := by rfl) :
    PI X (.Tuple elts kk tpos) (.Call (.Name "enumerate" p) [e] [] pos) (iEnumT X.K ta) := by
  refine ⟨fun pins s σ H R I h => ?_⟩
  refine Call_ (ld_blt I hg hm boot_enumerate (PyProof.Rows.callWith_type1 (thn (ha.run pos pins s σ H _ I h) fun us s1 ⟨vs, H1, I1, r1, q1⟩ => ?_) hs rfl))
  obtain ⟨a, xs, ex, hq, q⟩ := q1
  subst ex
  cases r1 with
  | cons r rr =>
    cases rr
    cases r
    obtain ⟨its, rv, p', hz⟩ := I1.tuple hq
    have hal : a < s1.heap.objs.size := by obtain ⟨o, h1, _⟩ := p'; exact Heap.lt_size h1
    refine enum_begins1 (begins_tuple a its.toArray) p' fun h' he hit hsz hk => wpAny_pyIter_enum he ?_
    have I2 : Inv X pins σ H1 { s1 with heap := h' } := I1.kept (t' := s1.toks) hk
    refine ⟨s1.heap.objs.size + 1, [s1.heap.objs.size + 1, s1.heap.objs.size], _, _, H1, rfl, I2, turn_enumT a (s1.heap.objs.size + 1) s1.heap.objs.size xs, ⟨⟨.none, he⟩, ⟨_, hit, rfl, rfl⟩, Nat.succ_ne_self _, Nat.ne_of_lt hal, Nat.ne_of_gt (Nat.lt_succ_of_lt hal), Nat.zero_le _⟩, fun b hb => ?_, q⟩
    have e' : b = s1.heap.objs.size + 1 ∨ b = s1.heap.objs.size := by simpa using hb
    have hle : s1.heap.objs.size ≤ b := by
      rcases e' with z | z
      · rw [z]; exact Nat.le_add_right _ _
      · rw [z]; exact Nat.le_refl _
    exact I1.fpOk hle (I1.hok.fresh hle)
/-! ### == and != by an own __eq__ -/
section
variable {X : Cx} {CX : CXT} {n : Nat} {C f : Addr} {fd : FuncData} {ps : List Str} {sp : Sp} {E : XK}
/-- the own method runs somewhere below -/
theorem run_sub {A : Around} {pins : List (Addr × Obj)} {σ : L2.St} {H : Hp} {s : Shared} {Q : VK} {us : List Value} {vs : List V} (F : FnOk X.prog X.w X.K X.mg X.base CX n f fd ps sp) (hb : Binds X.K fd ps []) (hx : Passes CX X E)
    (sb : Sub X n A) (I : Inv X pins σ H s) (r : Vals vs us) (h : sp vs H Q E) : wpAny (model X.prog X.w) A (call (.ref f) us) (EP X pins σ Q) X.xe s := by
  have e0 : Env0 X.prog X.w X.K X.mg X.base A X.stack s H := by
    have e := I.env0
    exact ⟨by rw [sb.fr]; exact e.frames, e.mod, e.bs, e.bsz, e.funs, e.frf, e.hok, e.bare⟩
  have hl : us.length = ps.length := by rw [← r.length]; exact F.len _ _ _ _ h
  refine wpAny_call (codeAny_mono (F.run A X.stack s H ⟨us, []⟩ us vs Q E sb.room e0 (by
    have := hb s us I.kIn (by simpa using hl)
    simpa using this) r h) fun r s' hq => ?_)
  cases r with
  | error e => exact hx pins σ H s e s' I hq
  | ok fl =>
    cases fl with
    | ret w => exact I.after hq
    | next => exact False.elim hq
    | brk => exact False.elim hq
    | cont => exact False.elim hq
/-- x == y, x an instance of the class at C with an own __eq__ that hands back a truth -/
def rEqO (K : PySem.W.Frag) (C : Addr) (sp : Sp) (E : XK) : R2 := fun x y H Q => ∃ a dx fs t, x = .ref a ∧ H a = some (.ins C dx fs) ∧ TyX K H y t ∧ PySem.W.notFirst K C t = true ∧
  sp [x, y] H (fun v H' => ∃ b, v = .bl b ∧ Q (.bl b) H') E
theorem op_eqO (F : FnOk X.prog X.w X.K X.mg X.base CX n f fd ps sp) (hs : PySem.W.findIn X.K (.ref C) "__eq__" = some (some (.ref f))) (hf : PySem.W.isFn X.K (.ref f) = true) (hb : Binds X.K fd ps []) (hx : Passes CX X E)
    (hr : Room n X.A) : OpR X (compareOp .Eq) (rEqO X.K C sp E) := by
  intro pins s σ H x y v u Q I rx ry hq
  obtain ⟨a, dx, fs, t, rfl, ha, ty, nf, q⟩ := hq
  cases (show v = Value.ref a from rx)
  obtain ⟨mA, J, _⟩ := ins_get I.hok ha
  obtain ⟨od, J, _⟩ := J.look
  obtain ⟨m, hF⟩ := I.fr
  obtain ⟨Pz, Z, pz, _⟩ := kit_of I ry ty
  have hu : X.A.units < cLine := Nat.lt_of_succ_lt (hu_of hr)
  refine PySem.W.cmp_K (op := .Eq) (tb := t) hu hF I.ok.mod.kin J (Z.ty _ _ I.kIn pz) nf hs hf ?_
  refine wpAny_mono (run_sub F hb hx ⟨hr, rfl⟩ I (.cons rx (.cons ry .nil)) q) (fun r s' hz => ?_) fun _ _ z => z
  obtain ⟨z, H', I', rz, b, rfl, qb⟩ := hz
  cases (show r = Value.bool b from rz)
  exact ⟨.bl b, H', I', rfl, qb⟩
/-- x != y: the default __ne__ asks the own __eq__ -/
def rNeO (K : PySem.W.Frag) (C : Addr) (sp : Sp) (E : XK) : R2 := fun x y H Q => ∃ a dx fs t, x = .ref a ∧ H a = some (.ins C dx fs) ∧ TyX K H y t ∧ PySem.W.notFirst K C t = true ∧
  sp [x, y] H (fun v H' => ∃ b, v = .bl b ∧ Q (.bl (!b)) H') E
theorem ifBound_B {M : Model} {A : Around} {E : Value → Shared → Prop} {s : Shared} {K : PySem.W.Frag} {x C : Addr} {ox : Obj} {od : Option Obj} {name : Str} {id : String} {args : List Value} {Q : Option Value → Shared → Prop} (X : K.In s.heap) (I : PySem.W.InstAt s.heap x ox C od)
    (hs : PySem.W.findIn K (.ref C) name = some (some (.builtin id))) (hb : ∀ self, bindSpecial (.builtin id) self = pure (.builtin id, [self]))
    (h : wpAny M A (call (.builtin id) (.ref x :: args)) (fun v => Q (some v)) E s) : wpAny M A (callSpecialIfBound? (.ref x) name args) Q E s := by
  simp only [callSpecialIfBound?, bindSpecialIfBound?]
  refine wpAny_holding (wpAny_bind (wpAny_bind (wpAny_bind (I.type.here ((PySem.W.looks_findIn X hs).here ?_)))))
  refine wpAny_bind (wpAny_askSetting (wpAny_ite ?_))
  have fin : wpAny M A (call (.builtin id) ([.ref x] ++ args) >>= fun v => pure (some v)) Q E s := wpAny_bind (wpAny_mono h (fun v s' h' => wpAny_pure h') fun _ _ h' => h')
  have L := (PySem.W.Looks.of_pure (M := M) (h := s.heap) (hb (.ref x)))
  split
  · exact wpAny_bind (L.here (wpAny_pure (by exact fin)))
  · exact wpAny_tryCatch (wpAny_bind (L.here (wpAny_pure (by exact fin))))
theorem op_neO (F : FnOk X.prog X.w X.K X.mg X.base CX n f fd ps sp) (hs : PySem.W.findIn X.K (.ref C) "__eq__" = some (some (.ref f))) (hf : PySem.W.isFn X.K (.ref f) = true) (hb : Binds X.K fd ps []) (hx : Passes CX X E)
    (hn : PySem.W.findIn X.K (.ref C) "__ne__" = some (some (.builtin "object.__ne__"))) (hm : PySem.W.mroIn X.K C (.type "object") = some true)
    (hr : Room (n + 1) X.A) : OpR X (compareOp .NotEq) (rNeO X.K C sp E) := by
  intro pins s σ H x y v u Q I rx ry hq
  obtain ⟨a, dx, fs, t, rfl, ha, ty, nf, q⟩ := hq
  cases (show v = Value.ref a from rx)
  obtain ⟨mA, J, _⟩ := ins_get I.hok ha
  obtain ⟨od, J, _⟩ := J.look
  obtain ⟨Pz, Z, pz, _⟩ := kit_of I ry ty
  have hu : X.A.units < cLine := Nat.lt_of_succ_lt (hu_of hr)
  have hu1 : X.A.in1.units < cLine := hu_of hr
  have K0 := I.kIn
  have run := run_sub F hb hx (A := X.A.in1) ⟨hr.in1, rfl⟩ I (.cons rx (.cons ry .nil)) q
  have one : wpAny (model X.prog X.w) X.A (tryCompare (.ref a) "__ne__" u) (fun r s' => ∃ v, r = some v ∧ EP X pins σ Q v s') X.xe s := by
    unfold tryCompare
    refine wpAny_bind (ifBound_B K0 J hn PySem.F.cmp_object.ne.bind ?_)
    refine wpAny_call (codeAny_call_builtin PySem.F.cmp_object.ne.plain PySem.F.cmpEntry_ne (PySem.W.check_slot (i := "object.__ne__") (owner := "object") (n := "__ne__") PySem.F.cmpKind_ne PySem.F.cmpSplit_ne (J.type.andThen (PySem.W.looks_mroIn K0 hm)) (PySem.F.cmpArgs_ne _ _) ?_))
    unfold Builtin.«object.__ne__»
    refine wpAny_bind (m := slotArgs "__ne__" 1 _) (wpAny_pure ?_)
    refine wpAny_bind (m := cRoomFor _ _) (wpAny_cRoomFor hu1 ?_)
    refine wpAny_bind (m := callSpecialIfBound? (.ref a) (Str.ofString "__eq__") _) (PySem.W.ifBound_K K0 J hs hf (wpAny_mono run (fun r s' hz => ?_) fun _ _ z => z))
    obtain ⟨z, H', I', rz, b, rfl, qb⟩ := hz
    cases (show r = Value.bool b from rz)
    refine wpAny_bind (wpAny_truthy_bool ?_)
    exact wpAny_pure (wpAny_pure ⟨_, rfl, .bl (!b), H', I', rfl, qb⟩)
  show wpAny (model X.prog X.w) X.A (richCompare .NotEq (.ref a) u) (EP X pins σ Q) X.xe s
  unfold richCompare
  simp only [oneThing_ref]
  refine wpAny_holding (wpAny_bind (wpAny_cRoomFor hu ?_))
  refine wpAny_bind (J.type.here (wpAny_bind ((Z.ty _ _ I.kIn pz).here ?_)))
  split
  · rename_i q2
    have e : PySem.W.subIn X.K t (.ref C) = some false := by
      rcases Bool.or_eq_true_iff.mp nf with e | e
      · rw [beq_iff_eq.mp e] at q2; simp at q2
      · exact beq_iff_eq.mp e
    refine wpAny_bind ((PySem.W.looks_subIn K0 e).here ?_)
    simp only [Bool.false_eq_true, if_false]
    refine wpAny_bind (wpAny_mono one (fun r s' z => ?_) fun _ _ e => e)
    obtain ⟨v, rfl, hq⟩ := z
    exact wpAny_pure hq
  · refine wpAny_bind (wpAny_pure ?_)
    simp only [Bool.false_eq_true, if_false]
    refine wpAny_bind (wpAny_mono one (fun r s' z => ?_) fun _ _ e => e)
    obtain ⟨v, rfl, hq⟩ := z
    exact wpAny_pure hq
/-! ### str(x) by an own __str__ -/
def rStrO (C : Addr) (sp : Sp) (E : XK) : List V → Hp → VK → Prop := fun xs H Q => ∃ a dx fs, xs = [.ref a] ∧ H a = some (.ins C dx fs) ∧ sp [.ref a] H (fun v H' => ∃ z, v = .str z ∧ Q (.str z) H') E
theorem call_strO (F : FnOk X.prog X.w X.K X.mg X.base CX n f fd ps sp) (hs : PySem.W.findIn X.K (.ref C) "__str__" = some (some (.ref f))) (hf : PySem.W.isFn X.K (.ref f) = true) (hb : Binds X.K fd ps []) (hx : Passes CX X E)
    (hr : Room (n + 2) X.A) : CallR X (.type "str") (rStrO C sp E) := by
  intro pins s σ H xs us Q I r hq
  obtain ⟨a, dx, fs, rfl, ha, q⟩ := hq
  obtain ⟨u, rfl, rx⟩ : ∃ u, us = [u] ∧ RelV (.ref a) u := by
    cases r with
    | cons r rr => cases rr; exact ⟨_, rfl, r⟩
  cases (show u = Value.ref a from rx)
  obtain ⟨mA, J, _⟩ := ins_get I.hok ha
  obtain ⟨od, J, _⟩ := J.look
  have hr2 : Room n X.A.in1.in1 := hr.in1.in1
  have hu : X.A.in1.in1.units < cLine := Nat.lt_of_succ_lt (hu_of hr2)
  refine PySem.W.kso_call hu I.kIn J hs hf ?_
  refine wpAny_mono (run_sub F hb hx (A := X.A.in1.in1) ⟨hr2, rfl⟩ I (.cons rx .nil) q) (fun r s' hz => ?_) fun _ _ z => z
  obtain ⟨z, H', I', rz, x, rfl, qb⟩ := hz
  obtain ⟨t, e⟩ := (show ∃ t, r = Value.str x t from rz)
  cases e
  exact ⟨.str x, H', I', ⟨t, rfl⟩, qb⟩
/-! ### // by a number of either sign -/
def CDivNW (_ j : Int) : Prop := j ≠ 0 ∧ j.natAbs.log2 < 9000
theorem op_fdivNW : OpR X (binaryOp .FloorDiv) (rI CDivNW fun i j => .int (i.fdiv j)) := opI fun _ _ _ _ _ _ _ hc q => floordiv_int hc.1 q (.inl (PyProof.noPylong_of_log2 hc.2))
end
end TCA
/-! name = {k: v for ..}, the name a local: the dict is stored while the comprehension's block still stands. -/
namespace TCA
open PySem PySem.Spec PyProof.Rows L2
section
variable {X : Cx}
theorem sw_dict {kx vx : Expr} {gs : List Comprehension} {scope : Scope} {pos py : Pos} {y : Str} {l : Nat} {env : Env} (hk : env.scope.kind = .function) (hy : env.scope.names.lookup y = some .local) (hl : (py.line == pos.line) = true)
    (ha : (scope.names.any fun (n, k) => n == y && (k == .local || k == .cell)) = false) : swapsWith (.DictComp kx vx gs scope pos) (some (.Name y py)) l env = pure true := by
  have e1 : env.kindOf y = some .local := hy
  have e2 : env.blockKind = .function := by
    unfold Env.blockKind
    rw [hk]
    rfl
  unfold swapsWith
  simp only [e2, e1, ha, Expr.pos, hl]
  rfl
theorem ps_setDc {i : Nat} {y : Str} {py : Pos} {kx vx tg iter : Expr} {ifs : List Expr} {scope : Scope} {own : List (Str × Nat)} {pos spos : Pos} {wi : TI} {g : TG} {tt : TT} {tk tv : TE} (hc : X.calm = true) (hN : X.N.Nodup) (hy : X.N[i]? = some y) (hyl : X.env.scope.names.lookup y = some .local)
    (hsw : swapsWith (.DictComp kx vx [⟨tg, iter, ifs, 0⟩] scope pos) (some (.Name y py)) spos.line X.env = pure true) (hi : PI X tg iter wi) (ok : BlkOk X.N X.env.scope scope own)
    (hg : ∀ (s : Shared) (H : Hp) (C : Addr) (cl : List (Str × Addr)) (fp : List Addr), PG (X.blk s H scope (compEnvC scope cl C X.env) fp) tg g)
    (ht : ∀ (s : Shared) (H : Hp) (C : Addr) (cl : List (Str × Addr)) (fp : List Addr), PTs (X.blk s H scope (compEnvC scope cl C X.env) fp) ifs tt)
    (hk : ∀ (s : Shared) (H : Hp) (C : Addr) (cl : List (Str × Addr)) (fp : List Addr), PE (X.blk s H scope (compEnvC scope cl C X.env) fp) kx tk)
    (hv : ∀ (s : Shared) (H : Hp) (C : Addr) (cl : List (Str × Addr)) (fp : List Addr), PE (X.blk s H scope (compEnvC scope cl C X.env) fp) vx tv)
    (hs : ∀ x, foldedSetIterable iter X.env x = pure x := by intro _; rfl) :
    PS X (.Assign [.Name y py] (.DictComp kx vx [⟨tg, iter, ifs, 0⟩] scope pos) spos) (tAsg (tDc wi g tt tk tv (own.map (·.2))) (gName i)) := by
  refine ⟨fun pins s σ H D I h => ?_⟩
  rw [exec_Assign_Name_used _ _ _ _ hsw]
  refine wpAny_bind (wpAny_standAt (wpAny_bind ?_))
  show wpAny _ X.A (do let _ ← comprehension (.DictComp kx vx [⟨tg, iter, ifs, 0⟩] scope pos) scope X.env (firstIterPos [⟨tg, iter, ifs, 0⟩] pos) newDict false (eval iter X.env) (some (assign (.Name y py) X.env))) _ _ s
  have h' : tDc wi g tt tk tv (own.map (·.2)) σ H (fun x H1 => gName i x σ H1 D.nx) := h
  have core := dc_core (Qf := fun _ s' => SP X pins D .next s') (pos := pos) (pos' := firstIterPos [⟨tg, iter, ifs, 0⟩] pos) (use := some (assign (.Name y py) X.env)) hc hN I hi ok hg ht hk hv hs h' fun d C s' m H' I' q hn fp => by
    show wpAny _ _ (assign (.Name y py) X.env (.ref d)) _ _ _
    refine wpAny_assign_Name (store_ok2 (v := V.ref d) I' hN hy (.inl hyl) rfl (fun s2 I2 ⟨a, sb, ha⟩ => ?_) (.inr hyl))
    obtain ⟨f0, f1, f2, f3, f4, f5⟩ := fp
    have hCa : C ≠ a := by
      rcases ha with z | z
      · rw [z]
        exact f1
      · exact fun e => f4 y a z e.symm
    exact ⟨m, hn.sameBut sb hCa, fun h3 sb3 => ⟨_, H', I2.turned (t' := s2.toks) (fun b o hb e => (sb3.2 b hb).trans e) f0 f1 f3 f4 f5, q⟩⟩
  exact wpAny_bind (thn core fun _ s' hq => wpAny_pure (wpAny_pure hq))
/-! a for over a list or a tuple, whichever it is -/
theorem seqL_at {K : PySem.W.Frag} {H H' : Hp} {a : Addr} {xs : List V} (e : ∀ u, H a = some u → H' a = some u) (h : SqL K H a xs) : SqL K H' a xs := by
  rcases h with (h | ⟨o, h⟩) | h
  · exact .inl (.inl (e _ h))
  · exact .inl (.inr ⟨o, e _ h⟩)
  · exact .inr h
theorem seqT_at {K : PySem.W.Frag} {H H' : Hp} {a : Addr} {xs : List V} (e : ∀ u, H a = some u → H' a = some u) (h : SqT K H a xs) : SqT K H' a xs := by
  rcases h with (h | ⟨o, h⟩) | h
  · exact .inl (.inl (e _ h))
  · exact .inl (.inr ⟨o, e _ h⟩)
  · exact .inr h
def iSeq (K : PySem.W.Frag) (tl : TE) : TI := fun σ H R => tl σ H fun x H1 => ∃ a xs, x = .ref a ∧ (SqL K H1 a xs ∨ SqT K H1 a xs) ∧ ∀ (J : It) (G : Hp → Prop), (∀ H', (∀ u, H1 a = some u → H' a = some u) → G H') → Walk J xs.length G (YAt xs) → R J H1
theorem pi_seq {tg l : Expr} {tl : TE} (hl : PE X l tl) : PI X tg l (iSeq X.K tl) := by
  refine ⟨fun pins s σ H R I h => thn (hl.run pins s σ H _ I h) fun v s1 ⟨x, H1, I1, r1, q1⟩ => ?_⟩
  obtain ⟨a, xs, ex, hq, q⟩ := q1
  subst ex
  cases r1
  have own : ∀ b ∈ [s1.heap.objs.size], FpOk X pins H1 b := fun b hb => by
    rw [List.mem_singleton.mp hb]
    exact I1.fpOk (Nat.le_refl _) (I1.hok.fresh (Nat.le_refl _))
  rcases hq with hq | hq
  · obtain ⟨its, _, pl, _⟩ := I1.list hq
    exact wpAny_pyIter_list pl.isList ⟨s1.heap.objs.size, [s1.heap.objs.size], _, _, H1, rfl, I1.kept (t' := s1.toks) fun b o e => Heap.get?_push_of_some _ e, turn_list a _, ⟨_, Heap.get?_push_size _ rfl, rfl, rfl⟩, own, q _ _ (fun H' e => seqL_at e hq) walk_list⟩
  · obtain ⟨its, _, pl, _⟩ := I1.tuple hq
    exact wpAny_pyIter_tuple (show s1.heap.IsTuple a its.toArray from pl) ⟨s1.heap.objs.size, [s1.heap.objs.size], _, _, H1, rfl, I1.kept (t' := s1.toks) fun b o e => Heap.get?_push_of_some _ e, turn_tuple a _, ⟨_, Heap.get?_push_size _ rfl, rfl, rfl⟩, own, q _ _ (fun H' e => seqT_at e hq) walk_tup⟩
end
end TCA
namespace TB
open TC PySem PySem.Spec PyProof.Rows L2 TCA TCX
section
variable {P : Program} {w : World} {K : PySem.W.Frag} {mg : Str → Option Value} {base : Heap} {f : Addr} {fd : FuncData} {CS CT : Addr}
/-! ### need_sizes of a tuple -/
def spNeedT (K : PySem.W.Frag) (CS : Addr) : Sp := fun vs H Q E => ∃ (a : Addr) (xs : List V) (bs : List Bool), vs = [.ref a] ∧ H a = some (.tup xs) ∧ Paired (Siz K H) xs bs ∧ (bs.all id = true → Q .non H) ∧ (bs.all id = false → E (.ref CS) none H)
theorem ok_needT {fS CS : Addr} {fdS : FuncData} (F : FnP K "need_sizes" sNeedSizes f fd) (GS : FnOk P w K mg base CX0 2 fS fdS ["thing"] (spIsSize K)) (bS : L2.Binds K fdS ["thing"] []) (kS : PySem.W.keepIn K (.ref fS) = true) (gS : mg "is_size" = some (.ref fS)) (T : XTxt K mg "NoSize" CS) :
    FnOk P w K mg base (L2.CX P w) 3 f fd ["things"] (spNeedT K CS) := by
  refine F.ok scNeed (fun vs H Q E h => ?_) (fun cdv A outer s H vs Q E hr h => ?_)
  · obtain ⟨a, xs, bs, rfl, _⟩ := h
    rfl
  · obtain ⟨a, xs, bs, rfl, hS, hp, hq, he⟩ := h
    refine ⟨_, pss_one (ps_for (passes_of rfl) rfl (pi_tup (pv 0)) (pg_name (i := 1) scNeed.nd rfl (.inl rfl))
      (pss_one (ps_if (pt_not (pt_val (pe_call GS hr (by rfl) gS kS bS .nil pass0 (pa_cons (pv 1) pa_nil))))
        (pss_one (ps_raise rfl (takes_of rfl rfl rfl rfl) (pmk_own PySem.F.excBase_ValueError T.e T.g T.k (raises_own T.b T.t) rfl))) pss_nil))), ?_⟩
    refine ⟨_, rfl, a, rfl, ⟨_, SqT.of hS⟩, for_tup (K := K) (a := a) (xs := xs) (fun i σ H' => (∃ y, σ = [some (.ref a), y]) ∧ H' = H ∧ (bs.take i).all id = true) ⟨⟨none, rfl⟩, rfl, rfl⟩ (fun i σ H' _ z => by rw [z.2.1]; exact SqT.of hS) (fun i x σ H' hx z => ?_) (fun σ H' z => ?_)⟩
    · obtain ⟨⟨y, rfl⟩, rfl, hb⟩ := z
      obtain ⟨b, hbi, hs⟩ := paired_at hp i x hx
      refine ⟨_, rfl, x, b, rfl, hs, b, rfl, ?_⟩
      cases b with
      | true => exact iteF ⟨⟨_, rfl⟩, rfl, all_take hb hbi rfl⟩
      | false => exact iteT (he (all_false hbi))
    · obtain ⟨⟨y, rfl⟩, rfl, hb⟩ := z
      rw [paired_len hp, List.take_length] at hb
      exact hq hb
end
end TB
/-! Sums of fractions times roots, as lists of (root, fraction). -/
namespace TCR
open TCM
/-! ### fractions -/
theorem low_rat (t b : Int) (h : b ≠ 0) : low t b = ((Rat.divInt t b).num, ((Rat.divInt t b).den : Int)) := by
  have gp := gcd_pos t b h
  have e1 : (Rat.divInt t b).num = b.sign * t / ((b.gcd t : Nat) : Int) := Rat.num_divInt t b
  have e2 : (Rat.divInt t b).den = b.natAbs / b.gcd t := by rw [Rat.den_divInt, if_neg h]
  rw [e1, e2, Int.gcd_comm b t]
  obtain ⟨k, hk⟩ : ((Int.gcd t b : Nat) : Int) ∣ t := Int.gcd_dvd_left ..
  obtain ⟨m, hm⟩ : ((Int.gcd t b : Nat) : Int) ∣ b := Int.gcd_dvd_right ..
  have g0 : ((Int.gcd t b : Nat) : Int) ≠ 0 := by omega
  have x1 : low t b = (if b < 0 then (-k, -m) else (k, m)) := by
    unfold low sgn
    by_cases hb : b < 0
    · rw [if_pos hb, if_pos hb]
      have a1 : t.fdiv (-((Int.gcd t b : Nat) : Int)) = -k := by
        have z : t = (-((Int.gcd t b : Nat) : Int)) * (-k) := by rw [Int.neg_mul_neg]; exact hk
        have z2 := Int.mul_fdiv_cancel_left (-k) (show (-((Int.gcd t b : Nat) : Int)) ≠ 0 by omega)
        rw [← z] at z2
        exact z2
      have a2 : b.fdiv (-((Int.gcd t b : Nat) : Int)) = -m := by
        have z : b = (-((Int.gcd t b : Nat) : Int)) * (-m) := by rw [Int.neg_mul_neg]; exact hm
        have z2 := Int.mul_fdiv_cancel_left (-m) (show (-((Int.gcd t b : Nat) : Int)) ≠ 0 by omega)
        rw [← z] at z2
        exact z2
      rw [a1, a2]
    · rw [if_neg hb, if_neg hb]
      have a1 : t.fdiv ((Int.gcd t b : Nat) : Int) = k := by
        have z2 := Int.mul_fdiv_cancel_left k g0
        rw [← hk] at z2
        exact z2
      have a2 : b.fdiv ((Int.gcd t b : Nat) : Int) = m := by
        have z2 := Int.mul_fdiv_cancel_left m g0
        rw [← hm] at z2
        exact z2
      rw [a1, a2]
  rw [x1]
  have y2 : ((b.natAbs / Int.gcd t b : Nat) : Int) = (m.natAbs : Int) := by
    have : b.natAbs = Int.gcd t b * m.natAbs := by
      have z := congrArg Int.natAbs hm
      rw [Int.natAbs_mul] at z
      simpa using z
    rw [this, Nat.mul_div_cancel_left _ gp]
  have y1 : b.sign * t / ((Int.gcd t b : Nat) : Int) = b.sign * k := by
    have : b.sign * t = ((Int.gcd t b : Nat) : Int) * (b.sign * k) := by
      rw [Int.mul_left_comm, ← hk]
    rw [this, Int.mul_ediv_cancel_left _ g0]
  rw [y1, y2]
  have gn : (0 : Int) < ((Int.gcd t b : Nat) : Int) := by omega
  by_cases hb : b < 0
  · rw [if_pos hb, Int.sign_eq_neg_one_of_neg hb]
    have : m < 0 := by
      rcases Int.lt_or_le m 0 with z | z
      · exact z
      · have := Int.mul_nonneg (Int.le_of_lt gn) z
        omega
    rw [Int.neg_mul, Int.one_mul]
    congr 1
    omega
  · rw [if_neg hb, Int.sign_eq_one_of_pos (by omega)]
    have : 0 ≤ m := by
      rcases Int.lt_or_le m 0 with z | z
      · have := Int.mul_nonneg (Int.le_of_lt gn) (show 0 ≤ -m by omega)
        rw [Int.mul_neg] at this
        omega
      · exact z
    rw [Int.one_mul]
    congr 1
    omega
theorem lowL_rat (t b : Int) (h : b ≠ 0) : lowL t b = ((Rat.divInt t b).num, ((Rat.divInt t b).den : Int)) := by
  rw [← low_eq t b h, low_rat t b h]
/-- the sum as sum_in_lowest makes it -/
theorem sum_low (a b : Rat) :
    let g := Nat.gcd a.den b.den
    let num := a.num * ((b.den / g : Nat) : Int) + b.num * ((a.den / g : Nat) : Int)
    let l := Nat.gcd num.natAbs g
    (a + b).num = num / (l : Int) ∧ (a + b).den = (a.den / g) * (b.den / l) ∧ 0 < g ∧ 0 < l ∧ g ∣ a.den ∧ g ∣ b.den ∧ (l : Int) ∣ num ∧ l ∣ b.den := by
  intro g num l
  have ga : g ∣ a.den := Nat.gcd_dvd_left ..
  have gb : g ∣ b.den := Nat.gcd_dvd_right ..
  have g0 : 0 < g := Nat.gcd_pos_of_pos_left _ a.den_pos
  have l0 : 0 < l := Nat.gcd_pos_of_pos_right _ g0
  have lb : l ∣ b.den := Nat.dvd_trans (Nat.gcd_dvd_right ..) gb
  have aux : Nat.gcd num.natAbs g = Nat.gcd num.natAbs ((a.den / g) * b.den) := Rat.add.aux a b rfl rfl rfl
  have dn : (a.den / g) * b.den ≠ 0 := by
    have h1 : 0 < a.den / g := Nat.div_pos (Nat.le_of_dvd a.den_pos ga) g0
    exact Nat.ne_of_gt (Nat.mul_pos h1 b.den_pos)
  have es : a + b = mkRat num ((a.den / g) * b.den) := by
    rw [Rat.add_def' a b]
    rw [Rat.mkRat_eq_iff (Nat.mul_ne_zero a.den_nz b.den_nz) dn]
    obtain ⟨u, hu⟩ := ga
    obtain ⟨v, hv⟩ := gb
    have u1 : a.den / g = u := by rw [hu]; exact Nat.mul_div_cancel_left _ g0
    have v1 : b.den / g = v := by rw [hv]; exact Nat.mul_div_cancel_left _ g0
    show _ = (a.num * ((b.den / g : Nat) : Int) + b.num * ((a.den / g : Nat) : Int)) * _
    rw [u1, v1, hu, hv]
    push_cast
    grind
  have en : mkRat num ((a.den / g) * b.den) = Rat.normalize num ((a.den / g) * b.den) dn := by
    rw [Rat.normalize_eq_mkRat]
  have en2 := Rat.normalize_eq (num := num) dn
  refine ⟨?_, ?_, g0, l0, ga, gb, ?_, lb⟩
  · rw [es, en, en2]
    show num / ((Nat.gcd num.natAbs ((a.den / g) * b.den) : Nat) : Int) = num / ((Nat.gcd num.natAbs g : Nat) : Int)
    rw [aux]
  · rw [es, en, en2]
    show (a.den / g) * b.den / (Nat.gcd num.natAbs ((a.den / g) * b.den)) = (a.den / g) * (b.den / l)
    rw [← aux, Nat.mul_div_assoc _ lb]
  · exact Int.ofNat_dvd_left.mpr (Nat.gcd_dvd_left ..)
/-! ### sizes -/
def Sz (B : Nat) (q : Rat) : Prop := q.num.natAbs < 2 ^ B ∧ q.den < 2 ^ B
theorem Sz.mono {B C : Nat} {q : Rat} (h : Sz B q) (hc : B ≤ C) : Sz C q := by
  have := Nat.pow_le_pow_right (show 0 < 2 by decide) hc
  exact ⟨Nat.lt_of_lt_of_le h.1 this, Nat.lt_of_lt_of_le h.2 this⟩
theorem Sz.neg {B : Nat} {q : Rat} (h : Sz B q) : Sz B (-q) := by
  refine ⟨?_, ?_⟩
  · rw [Rat.neg_num, Int.natAbs_neg]
    exact h.1
  · rw [Rat.neg_den]
    exact h.2
theorem Sz.zero {B : Nat} (h : 0 < B) : Sz B 0 := ⟨Nat.pow_pos (by decide), Nat.one_lt_two_pow (by omega)⟩
theorem Sz.add {A B : Nat} {p q : Rat} (h : Sz A p) (k : Sz B q) : Sz (A + B + 1) (p + q) := by
  obtain ⟨e1, e2, g0, l0, ga, gb, ln, lb⟩ := sum_low p q
  have b1 : q.den / Nat.gcd p.den q.den ≤ q.den := Nat.div_le_self ..
  have a1 : p.den / Nat.gcd p.den q.den ≤ p.den := Nat.div_le_self ..
  have P1 : p.num.natAbs * q.den < 2 ^ A * 2 ^ B := Nat.mul_lt_mul'' h.1 k.2
  have P2 : q.num.natAbs * p.den < 2 ^ A * 2 ^ B := by
    rw [Nat.mul_comm (2 ^ A)]
    exact Nat.mul_lt_mul'' k.1 h.2
  have P3 : p.den * q.den < 2 ^ A * 2 ^ B := Nat.mul_lt_mul'' h.2 k.2
  have ep : 2 ^ (A + B + 1) = 2 ^ A * 2 ^ B * 2 := by rw [Nat.pow_succ, Nat.pow_add]
  refine ⟨?_, ?_⟩
  · rw [e1]
    have d1 := Int.natAbs_ediv_le_natAbs (p.num * ((q.den / Nat.gcd p.den q.den : Nat) : Int) + q.num * ((p.den / Nat.gcd p.den q.den : Nat) : Int)) ((Nat.gcd (p.num * ((q.den / Nat.gcd p.den q.den : Nat) : Int) + q.num * ((p.den / Nat.gcd p.den q.den : Nat) : Int)).natAbs (Nat.gcd p.den q.den) : Nat) : Int)
    have d2 := Int.natAbs_add_le (p.num * ((q.den / Nat.gcd p.den q.den : Nat) : Int)) (q.num * ((p.den / Nat.gcd p.den q.den : Nat) : Int))
    rw [Int.natAbs_mul, Int.natAbs_mul] at d2
    have m1 : p.num.natAbs * ((q.den / Nat.gcd p.den q.den : Nat) : Int).natAbs ≤ p.num.natAbs * q.den := Nat.mul_le_mul (Nat.le_refl _) (by rw [Int.natAbs_natCast]; exact b1)
    have m2 : q.num.natAbs * ((p.den / Nat.gcd p.den q.den : Nat) : Int).natAbs ≤ q.num.natAbs * p.den := Nat.mul_le_mul (Nat.le_refl _) (by rw [Int.natAbs_natCast]; exact a1)
    omega
  · rw [e2]
    have m1 := Nat.mul_le_mul a1 (Nat.div_le_self q.den (Nat.gcd (p.num * ((q.den / Nat.gcd p.den q.den : Nat) : Int) + q.num * ((p.den / Nat.gcd p.den q.den : Nat) : Int)).natAbs (Nat.gcd p.den q.den)))
    omega
theorem Sz.divInt {B : Nat} {t b : Int} (h : b ≠ 0) (ht : t.natAbs < 2 ^ B) (hb : b.natAbs < 2 ^ B) : Sz B (Rat.divInt t b) := by
  obtain ⟨l1, l2⟩ := low_abs t b h
  rw [low_rat t b h] at l1 l2
  exact ⟨Nat.lt_of_le_of_lt l1 ht, Nat.lt_of_le_of_lt (by simpa using l2) hb⟩
/-! ### lists of roots and fractions -/
def val : List (Int × Rat) → Int → Rat
  | [], _ => 0
  | (a, q) :: L, r => if a = r then q else val L r
structure Canon (L : List (Int × Rat)) : Prop where
  srt : L.Pairwise (fun x y => x.1 < y.1)
  nz : ∀ x ∈ L, x.2 ≠ 0
theorem val_not : ∀ {L : List (Int × Rat)} {r : Int}, (∀ x ∈ L, x.1 ≠ r) → val L r = 0
  | [], _, _ => rfl
  | (a, q) :: L, r, h => by
    show (if a = r then q else val L r) = 0
    rw [if_neg (h _ (List.mem_cons_self ..)), val_not fun x hx => h x (List.mem_cons_of_mem _ hx)]
theorem Canon.tail {x : Int × Rat} {L : List (Int × Rat)} (c : Canon (x :: L)) : Canon L := ⟨(List.pairwise_cons.mp c.srt).2, fun y hy => c.nz y (List.mem_cons_of_mem _ hy)⟩
theorem Canon.mem {L : List (Int × Rat)} (c : Canon L) {x : Int × Rat} (h : x ∈ L) : val L x.1 = x.2 := by
  induction L with
  | nil => cases h
  | cons y L ih =>
    obtain ⟨a, q⟩ := y
    rcases List.mem_cons.mp h with e | e
    · subst e
      exact if_pos rfl
    · have lt := (List.pairwise_cons.mp c.srt).1 x e
      show (if a = x.1 then q else val L x.1) = x.2
      rw [if_neg (by simp at lt; omega), ih c.tail e]
theorem Canon.val_ne {L : List (Int × Rat)} (c : Canon L) {r : Int} : val L r ≠ 0 ↔ ∃ q, (r, q) ∈ L := by
  refine ⟨fun h => ?_, fun ⟨q, h⟩ => ?_⟩
  · rcases Classical.em (∃ q, (r, q) ∈ L) with z | z
    · exact z
    · exact absurd (val_not fun x hx e => z ⟨x.2, by rw [← e]; exact hx⟩) h
  · rw [c.mem h]
    exact c.nz _ h
theorem canon_eq : ∀ {L M : List (Int × Rat)}, Canon L → Canon M → (∀ r, val L r = val M r) → L = M
  | [], [], _, _, _ => rfl
  | [], y :: M, _, c, h => by
    have z := h y.1
    rw [c.mem (List.mem_cons_self ..)] at z
    exact absurd z.symm (c.nz y (List.mem_cons_self ..))
  | x :: L, [], c, _, h => by
    have z := h x.1
    rw [c.mem (List.mem_cons_self ..)] at z
    exact absurd z (c.nz x (List.mem_cons_self ..))
  | x :: L, y :: M, c, d, h => by
    have key : x.1 = y.1 := by
      have lx : ∀ z ∈ L, x.1 < z.1 := (List.pairwise_cons.mp c.srt).1
      have ly : ∀ z ∈ M, y.1 < z.1 := (List.pairwise_cons.mp d.srt).1
      rcases Int.lt_trichotomy x.1 y.1 with z | z | z
      · have e := h x.1
        rw [c.mem (List.mem_cons_self ..), val_not (L := y :: M) (fun w hw => by
          rcases List.mem_cons.mp hw with e | e
          · rw [e]
            omega
          · have := ly w e
            omega)] at e
        exact absurd e (c.nz x (List.mem_cons_self ..))
      · exact z
      · have e := h y.1
        rw [d.mem (List.mem_cons_self ..), val_not (L := x :: L) (fun w hw => by
          rcases List.mem_cons.mp hw with e | e
          · rw [e]
            omega
          · have := lx w e
            omega)] at e
        exact absurd e.symm (d.nz y (List.mem_cons_self ..))
    have v : x.2 = y.2 := by
      have e := h x.1
      rw [c.mem (List.mem_cons_self ..), key, d.mem (List.mem_cons_self ..)] at e
      exact e
    have exy : x = y := Prod.ext key v
    subst exy
    rw [canon_eq c.tail d.tail fun r => ?_]
    by_cases e : x.1 = r
    · have lx : ∀ z ∈ L, x.1 < z.1 := (List.pairwise_cons.mp c.srt).1
      have ly : ∀ z ∈ M, x.1 < z.1 := (List.pairwise_cons.mp d.srt).1
      rw [val_not (fun w hw => by have := lx w hw; omega), val_not (fun w hw => by have := ly w hw; omega)]
    · have z := h r
      obtain ⟨a, q⟩ := x
      have z2 : (if a = r then q else val L r) = (if a = r then q else val M r) := z
      rw [if_neg e, if_neg e] at z2
      exact z2
/-! ### from a sorted list of keys -/
def kept (g : Int → Rat) (ns : List Int) : List (Int × Rat) := (ns.filter fun r => decide (g r ≠ 0)).map fun r => (r, g r)
theorem val_kept (g : Int → Rat) : ∀ {ns : List Int} (r : Int), (r ∉ ns → g r = 0) → val (kept g ns) r = g r
  | [], r, h => (h (by simp)).symm
  | n :: ns, r, h => by
    unfold kept
    by_cases hn : g n ≠ 0
    · rw [List.filter_cons, if_pos (by simpa using hn), List.map_cons]
      show (if n = r then g n else val (kept g ns) r) = g r
      by_cases e : n = r
      · rw [if_pos e, e]
      · rw [if_neg e, val_kept g r fun z => h (by
          rw [List.mem_cons]
          rintro (w | w)
          · exact e w.symm
          · exact z w)]
    · rw [List.filter_cons, if_neg (by simpa using hn)]
      show val (kept g ns) r = g r
      by_cases e : n = r
      · subst e
        have e0 : g n = 0 := Classical.not_not.mp hn
        by_cases m : n ∈ ns
        · exact val_kept g n fun z => absurd m z
        · rw [e0]
          refine val_not fun x hx => ?_
          unfold kept at hx
          obtain ⟨s, hs, rfl⟩ := List.mem_map.mp hx
          intro z
          have : s = n := z
          subst this
          exact m (List.mem_filter.mp hs).1
      · exact val_kept g r fun z => h (by
          rw [List.mem_cons]
          rintro (w | w)
          · exact e w.symm
          · exact z w)
theorem canon_kept (g : Int → Rat) {ns : List Int} (nd : ns.Nodup) (srt : ns.Pairwise (· ≤ ·)) : Canon (kept g ns) := by
  refine ⟨?_, fun x hx => ?_⟩
  · unfold kept
    rw [List.pairwise_map]
    have lt : ns.Pairwise (fun a b => a < b) := (List.pairwise_and_iff.mpr ⟨srt, nd⟩).imp fun {a b} h => by
      have h1 : a ≤ b := h.1
      have h2 : a ≠ b := h.2
      omega
    exact lt.filter _
  · unfold kept at hx
    obtain ⟨r, hr, rfl⟩ := List.mem_map.mp hx
    simpa using (List.mem_filter.mp hr).2
theorem kept_len (g : Int → Rat) (ns : List Int) : (kept g ns).length ≤ ns.length := by
  unfold kept
  rw [List.length_map]
  exact List.length_filter_le ..
theorem kept_snoc (g : Int → Rat) (ns : List Int) (r : Int) : kept g (ns ++ [r]) = kept g ns ++ (if g r ≠ 0 then [(r, g r)] else []) := by
  unfold kept
  rw [List.filter_append, List.map_append]
  congr 1
  by_cases h : g r ≠ 0
  · rw [if_pos h, List.filter_cons, if_pos (by simpa using h)]
    rfl
  · rw [if_neg h, List.filter_cons, if_neg (by simpa using h)]
    rfl
theorem val_take {M : List (Int × Rat)} (c : Canon M) : ∀ {i : Nat} {x : Int × Rat} (s : Int), M[i]? = some x → val (M.take i) x.1 = 0 ∧ val (M.take (i + 1)) s = if s = x.1 then x.2 else val (M.take i) s := by
  induction M with
  | nil =>
    intro i x s h
    simp at h
  | cons y M ih =>
    intro i x s h
    obtain ⟨a, q⟩ := y
    cases i with
    | zero =>
      have e : (a, q) = x := Option.some.inj h
      subst e
      refine ⟨rfl, ?_⟩
      show (if a = s then q else 0) = if s = a then q else 0
      by_cases e : a = s
      · rw [if_pos e, if_pos e.symm]
      · rw [if_neg e, if_neg fun z => e z.symm]
    | succ i =>
      have h' : M[i]? = some x := h
      obtain ⟨h1, h2⟩ := ih c.tail s h'
      have lt : a < x.1 := (List.pairwise_cons.mp c.srt).1 x (List.mem_of_getElem? h')
      refine ⟨?_, ?_⟩
      · show (if a = x.1 then q else val (M.take i) x.1) = 0
        rw [if_neg (by omega), h1]
      · show (if a = s then q else val (M.take (i + 1)) s) = if s = x.1 then x.2 else (if a = s then q else val (M.take i) s)
        rw [h2]
        by_cases e : a = s
        · rw [if_pos e, if_neg (by omega), if_pos e]
        · rw [if_neg e, if_neg e]
theorem Sz.val {B : Nat} {L : List (Int × Rat)} (h0 : 0 < B) (h : ∀ x ∈ L, Sz B x.2) (r : Int) : Sz B (val L r) := by
  induction L with
  | nil => exact Sz.zero h0
  | cons y L ih =>
    obtain ⟨a, q⟩ := y
    show Sz B (if a = r then q else TCR.val L r)
    split
    · exact h _ (List.mem_cons_self ..)
    · exact ih fun x hx => h x (List.mem_cons_of_mem _ hx)
def negL (L : List (Int × Rat)) : List (Int × Rat) := L.map fun x => (x.1, -x.2)
theorem val_neg : ∀ (L : List (Int × Rat)) (r : Int), val (negL L) r = -val L r
  | [], r => by
    show (0 : Rat) = -0
    rfl
  | (a, q) :: L, r => by
    show (if a = r then -q else val (negL L) r) = -(if a = r then q else val L r)
    split
    · rfl
    · exact val_neg L r
theorem canon_neg {L : List (Int × Rat)} (c : Canon L) : Canon (negL L) := by
  refine ⟨?_, fun x hx => ?_⟩
  · unfold negL
    rw [List.pairwise_map]
    exact c.srt
  · obtain ⟨y, hy, rfl⟩ := List.mem_map.mp hx
    have z := c.nz y hy
    show -y.2 ≠ 0
    grind
theorem canon_one {r : Int} {q : Rat} (h : q ≠ 0) : Canon [(r, q)] := ⟨List.pairwise_singleton .., fun x hx => by rw [List.mem_singleton.mp hx]; exact h⟩
theorem canon_nil : Canon [] := ⟨List.Pairwise.nil, fun x hx => by cases hx⟩
end TCR
namespace TC
open PySem PySem.Spec PyProof.Rows L2 TCA
theorem iteNT {c A B : Prop} [Decidable c] (hc : ¬ c) (h : A) : if (!decide c) = true then A else B := by
  rw [decide_eq_false hc]
  exact iteT h
theorem iteD1 {c A B : Prop} [Decidable c] (hc : c) (h : A) : if decide c = true then A else B := by
  rw [decide_eq_true hc]
  exact iteT h
theorem iteD0 {c A B : Prop} [Decidable c] (hc : ¬ c) (h : B) : if decide c = true then A else B := by
  rw [decide_eq_false hc]
  exact iteF h
theorem ine {a b : Int} (h : a ≠ b) : ¬ (V.int a = V.int b) := fun e => h (V.int.inj e)
theorem same_upd {H : Hp} {p : Addr} {o : HO} (h : H p = none) : Same H (upd H p o) := fun b x e => by
  rw [upd_ne (ne_of_none e h)]
  exact e
section
variable {P : Program} {w : World} {K : PySem.W.Frag} {mg : Str → Option Value} {base : Heap} {f : Addr} {fd : FuncData}
/-! ### is_whole -/
def spWhole : Sp := fun vs H Q _ => ∃ n : Int, vs = [.int n] ∧ Q (.bl true) H
theorem scWhole : FnScope ["thing"] ["thing"] (defScope sWhole) := ⟨rfl, rfl, rfl, by decide +kernel, rfl, by decide +kernel, by decide +kernel⟩
theorem ok_whole (F : FnP K "is_whole" sWhole f fd) (gI : mg "isinstance" = none) (gi : mg "int" = none) (gb : mg "bool" = none) : FnOk P w K mg base CX0 1 f fd ["thing"] spWhole := by
  refine F.ok scWhole (fun vs H Q E h => ?_) (fun cdv A outer s H vs Q E hr h => ?_)
  · obtain ⟨n, rfl, _⟩ := h
    rfl
  · obtain ⟨n, rfl, q⟩ := h
    refine ⟨_, PSs.nox (pss_one (ps_ret (pe_and (pe_callB call_isi (by rfl) gI (by decide +kernel) (pa_cons (pv 0) (pa_cons (pe_bltn (v := .ty "int") (by rfl) gi (by decide +kernel) rfl) pa_nil)))
      (pe_one (pe_not (pe_callB call_isi (by rfl) gI (by decide +kernel) (pa_cons (pv 0) (pa_cons (pe_bltn (v := .ty "bool") (by rfl) gb (by decide +kernel) rfl) pa_nil)))))))), ?_⟩
    refine ⟨_, rfl, _, _, _, _, true, rfl, .ty "int", .base (.int n), kit_ty (by decide +kernel), true, rfl, iteT ?_⟩
    refine ⟨_, rfl, _, _, _, _, false, rfl, .ty "bool", .base (.int n), kit_ty (by decide +kernel), false, rfl, q⟩
/-! ### shared -/
def spShared : Sp := fun vs H Q _ => ∃ a b : Int, vs = [.int a, .int b] ∧ Q (.int ((Int.gcd a b : Nat) : Int)) H
/-! ### in_lowest -/
def spLowest : Sp := fun vs H Q _ => ∃ (t b : Int) (A : Nat), vs = [.int t, .int b] ∧ b ≠ 0 ∧ b.natAbs < 2 ^ A ∧ 0 < A ∧ A ≤ 8000 ∧ ∀ p, H p = none → Q (.ref p) (upd H p (.tup [.int (TCM.low t b).1, .int (TCM.low t b).2]))
theorem log_lt {d : Int} {n : Nat} (h : n ≤ 9000) (hn : 0 < n) (hd : d.natAbs < 2 ^ n) : d.natAbs.log2 < 9000 := Nat.lt_of_lt_of_le (PySem.Flt.log2_lt_of hn hd) h
end
theorem primes_ok : ∀ p ∈ TCM.primes, 2 ≤ p ∧ p ≤ 997 := by decide
theorem pp_le {p : Int} {m : Int} (h : 2 ≤ p) (h2 : p ≤ m) : 4 ≤ p * p ∧ p * p ≤ m * m := ⟨TCM.pp4 h, Int.mul_le_mul h2 h2 (by omega) (by omega)⟩
/-- the inner loop's word: k more turns -/
def WInn (p n0 o0 n o : Int) (k : Nat) : Prop := 0 < n ∧ n ≤ 1000000 ∧ n < 4 ^ k ∧ TCM.whl k p n o = TCM.whl 10 p n0 o0
theorem WInn.start {p n o : Int} (h : 0 < n) (h2 : n ≤ 1000000) : WInn p n o n o 10 := ⟨h, h2, Int.lt_of_le_of_lt h2 (by decide), rfl⟩
theorem WInn.turn {p n0 o0 n o : Int} {k : Nat} (w : WInn p n0 o0 n o k) (hp : 2 ≤ p) (h : n % (p * p) = 0) : ∃ j, WInn p n0 o0 (n / (p * p)) (o * p) j ∧ (n / (p * p)).toNat < n.toNat := by
  obtain ⟨h0, h1, h2, h3⟩ := w
  obtain ⟨a, b, c⟩ := TCM.sq_div h0 (TCM.pp4 hp) h
  cases k with
  | zero =>
    have : n < 1 := h2
    omega
  | succ k =>
    refine ⟨k, ⟨a, by omega, ?_, ?_⟩, by omega⟩
    · have e : (4 : Int) ^ (k + 1) = 4 ^ k * 4 := Int.pow_succ ..
      omega
    · rw [← h3]
      show _ = (if n % (p * p) = 0 then TCM.whl k p (n / (p * p)) (o * p) else (n, o))
      rw [if_pos h]
theorem WInn.stop {p n0 o0 n o : Int} {k : Nat} (w : WInn p n0 o0 n o k) (h : ¬ n % (p * p) = 0) : TCM.whl 10 p n0 o0 = (n, o) := by
  obtain ⟨h0, h1, h2, h3⟩ := w
  rw [← h3]
  cases k with
  | zero => rfl
  | succ k =>
    show (if n % (p * p) = 0 then TCM.whl k p (n / (p * p)) (o * p) else (n, o)) = _
    rw [if_neg h]
theorem cmul_r {i j : Int} (h1 : -1000000 ≤ j) (h2 : j ≤ 1000000) : CMul i j := .inr ⟨by omega, by omega⟩
section
variable {P : Program} {w : World} {K : PySem.W.Frag} {mg : Str → Option Value} {base : Heap} {f : Addr} {fd : FuncData}
/-! ### squares_out -/
def spSquares : Sp := fun vs H Q _ => ∃ n : Int, vs = [.int n] ∧ 0 ≤ n ∧ n ≤ 1000000 ∧ ∀ p H', Same H H' → H p = none → H' p = some (.tup [.int (TCM.sqOut n).1, .int (TCM.sqOut n).2.1, .int (TCM.sqOut n).2.2]) → Q (.ref p) H'
/-! ### _law_low -/
def spLowL : Sp := fun vs H Q _ => ∃ (t b : Int) (A : Nat), vs = [.int t, .int b] ∧ b ≠ 0 ∧ b.natAbs < 2 ^ A ∧ 0 < A ∧ A ≤ 8000 ∧ ∀ p, H p = none → Q (.ref p) (upd H p (.tup [.int (TCM.lowL t b).1, .int (TCM.lowL t b).2]))
/-! ### _law_pen -/
def spPen (K : PySem.W.Frag) : Sp := fun vs H Q _ => ∃ (a : Addr) (ns : List Int), vs = [.ref a] ∧ SqL K H a (ns.map V.int) ∧ ns.length ≤ 63 ∧
  ∀ (p c : Addr) (ms : List Int) H', Same H H' → H p = none → H' p = some (.lst [.ref c, .int 0, .int 0]) → H' c = some (.lst (ms.map V.int)) → p ≠ c → Q (.ref p) H'
theorem scPen : FnScope ["_law_script"] ["_law_script"] (defScope sPen) := ⟨rfl, rfl, rfl, by decide +kernel, rfl, by decide +kernel, by decide +kernel⟩
theorem ok_pen (F : FnP K "_law_pen" sPen f fd) (gl : mg "list" = none) : FnOk P w K mg base CX0 1 f fd ["_law_script"] (spPen K) := by
  refine F.ok scPen (fun vs H Q E h => ?_) (fun cdv A outer s H vs Q E hr h => ?_)
  · obtain ⟨a, ns, rfl, _⟩ := h
    rfl
  · obtain ⟨a, ns, rfl, hS, hn, q⟩ := h
    refine ⟨_, PSs.nox (pss_one (ps_ret (pe_lst (pa_cons (pe_callTy call_list_of (by rfl) gl (by decide +kernel) (pa_cons (pe_slice sl_list (pv 0) po_none (po_some pe_int)) pa_nil)) (pa_cons pe_int (pa_cons pe_int pa_nil)))))), ?_⟩
    refine ⟨_, rfl, _, rfl, a, _, rfl, hS, fun c1 hc1 => ?_⟩
    have sm1 := same_upd (o := .lst (cutV (ns.map V.int) none (some 63))) hc1
    refine ⟨c1, _, rfl, .inl (SqL.of upd_same), fun c hc => ?_⟩
    have sm2 := same_upd (o := .lst (cutV (ns.map V.int) none (some 63))) hc
    refine ⟨by show 3 ≤ sizeLine; decide, fun p hp => ?_⟩
    have sm3 := same_upd (o := .lst [.ref c, .int 0, .int 0]) hp
    have ec : cutV (ns.map V.int) none (some 63) = ((ns.drop (HT.sIx (ns.map V.int).length 0 none)).take (HT.sIx (ns.map V.int).length (ns.map V.int).length (some 63) - HT.sIx (ns.map V.int).length 0 none)).map V.int := by
      rw [List.map_take, List.map_drop]
      rfl
    refine q p c ((ns.drop (HT.sIx (ns.map V.int).length 0 none)).take (HT.sIx (ns.map V.int).length (ns.map V.int).length (some 63) - HT.sIx (ns.map V.int).length 0 none)) _ ((sm1.trans sm2).trans sm3) ((sm1.trans sm2).free hp) upd_same ?_ ?_
    · rw [← ec]
      exact sm3 _ _ upd_same
    · exact fun e => by
        rw [e, upd_same] at hp
        cases hp
/-! ### _law_draw -/
/-- the pen: its cells at c, where it stands, what is left of a great cell -/
def PenAt (H : Hp) (p c : Addr) (ms : List Int) (n : Int) : Prop := ∃ left : Int, H p = some (.lst [.ref c, .int n, .int left]) ∧ H c = some (.lst (ms.map V.int)) ∧ p ≠ c
/-- all but the pen is as it was -/
def SameBut (p : Addr) (H H' : Hp) : Prop := ∀ b o, b ≠ p → H b = some o → H' b = some o
def spDraw : Sp := fun vs H Q _ => ∃ (p c : Addr) (ms : List Int) (n m : Int), vs = [.ref p, .int m] ∧ PenAt H p c ms n ∧ 0 ≤ n ∧ n ≤ 1000000 ∧ 0 < m ∧ m < 2 ^ 1000 ∧
  ∀ (d n' : Int) H', 0 ≤ d → d < m → n ≤ n' → n' ≤ n + 1 → PenAt H' p c ms n' → SameBut p H H' → Q (.int d) H'
theorem scDraw : FnScope ["_law_pen_here", "_law_many", "_law_found", "_law_at", "_law_cell", "_law_number"] ["_law_pen_here", "_law_many"] (defScope sDraw) := ⟨rfl, rfl, rfl, by decide +kernel, rfl, by decide +kernel, by decide +kernel⟩
theorem but_upd {p : Addr} {H H1 : Hp} {o : HO} (s : SameBut p H H1) : SameBut p H (upd H1 p o) := fun b x hb e => by
  rw [upd_ne hb]
  exact s b x hb e
set_option exponentiation.threshold 2000 in
theorem wdiv {i m : Int} (h : 0 < m) (h2 : m < 2 ^ 1000) : CDivW i m := ⟨h, Nat.lt_of_lt_of_le (PySem.Flt.log2_lt_of (show 0 < 1000 by decide) (show m.natAbs < 2 ^ 1000 by omega)) (by decide)⟩
theorem ok_draw (F : FnP K "_law_draw" sDraw f fd) (gl : mg "len" = none) : FnOk P w K mg base CX0 1 f fd ["_law_pen_here", "_law_many"] spDraw := by
  refine F.ok scDraw (fun vs H Q E h => ?_) (fun cdv A outer s H vs Q E hr h => ?_)
  · obtain ⟨p, c, ms, n, m, rfl, _⟩ := h
    rfl
  · obtain ⟨p, c, ms, n, m, rfl, ⟨left, hp, hc, hpc⟩, n0, n1, m0, m1, q⟩ := h
    refine ⟨_, PSs.nox (pss_cons (ps_if (pt_cmpR op_gt (pe_ix ix_list (pv 0) pe_int (fun _ _ => rfl)) pe_int (nomark _))
        (pss_cons (ps_set (i := 2) scDraw.nd rfl (.inl rfl) (pe_op op_mod (pe_ix ix_list (pv 0) pe_int (fun _ _ => rfl)) (pv 1)))
        (pss_cons (ps_asg (pe_op op_fdivW (pe_ix ix_list (pv 0) pe_int (fun _ _ => rfl)) (pv 1)) (pg_sub (pv 0) pe_int set_list))
        (pss_one (ps_ret (pv 2))))) pss_nil)
      (pss_cons (ps_set (i := 3) scDraw.nd rfl (.inl rfl) (pe_ix ix_list (pv 0) pe_int (fun _ _ => rfl)))
      (pss_cons (ps_asg (pe_op op_add (pv 3) pe_int) (pg_sub (pv 0) pe_int set_list))
      (pss_cons (ps_set (i := 4) scDraw.nd rfl (.inl rfl) pe_int)
      (C8.pss_cut (ps_if (pt_cmpR op_gt (pe_callB call_len_seq (by rfl) gl PySem.boot_len (pa_cons (pe_ix ix_list (pv 0) pe_int (fun _ _ => rfl)) pa_nil)) pe_int (nomark _))
        (pss_one (ps_set (i := 4) scDraw.nd rfl (.inl rfl) (pe_ix ix_list (pe_ix ix_list (pv 0) pe_int (fun _ _ => rfl)) (pe_op op_mod (pv 3) (pe_callB call_len_seq (by rfl) gl PySem.boot_len (pa_cons (pe_ix ix_list (pv 0) pe_int (fun _ _ => rfl)) pa_nil))) (fun _ _ => rfl)))) pss_nil)
      (C8.pss_cut (ps_if (PW.pt (pw_and (pt_cmpR op_lt (pv 3) (pe_callB call_len_seq (by rfl) gl PySem.boot_len (pa_cons (pe_ix ix_list (pv 0) pe_int (fun _ _ => rfl)) pa_nil)) (nomark _)) (pw_and1 (pt_cmpR op_ge (pv 4) (pe_op op_pow pe_int pe_int) (nomark _)))))
        (pss_cons (ps_asg (pe_op op_fdivW (pv 4) (pv 1)) (pg_sub (pv 0) pe_int set_list)) (pss_one (ps_ret (pe_op op_mod (pv 4) (pv 1))))) pss_nil)
      (pss_cons (ps_set (i := 5) scDraw.nd rfl (.inl rfl) (pe_op op_mod (pe_op op_mul (pe_op op_add (pe_op op_mod (pv 4) pe_int) pe_int) (pe_op op_add (pe_op op_add (pe_op op_mul (pv 3) (pv 3)) (pe_op op_mul pe_int (pv 3))) pe_int)) pe_int))
      (pss_cons (ps_set (i := 5) scDraw.nd rfl (.inl rfl) (pe_op op_mod (pe_op op_mul (pe_op op_mod (pe_op op_add (pe_op op_pow (pv 5) pe_int) (pe_op op_mul pe_int (pv 3))) pe_int) pe_int) pe_int))
      (C8.pss_cut (ps_if (pt_cmpR op_gt (pv 1) (pe_op op_pow pe_int pe_int) (nomark _))
        (pss_one (ps_set (i := 5) scDraw.nd rfl (.inl rfl) (pe_op op_add (pe_op op_mul (pv 5) pe_int) (pe_op op_mod (pe_op op_mul (pe_op op_mod (pv 5) pe_int) pe_int) pe_int)))) pss_nil)
      (pss_one (ps_ret (pe_op op_mod (pe_op op_fdiv (pv 5) pe_int) (pv 1))))))))))))), ?_⟩
    have i2 : atI ([.ref c, .int n, .int left] : List V) 2 = some (.int left) := atI_nat (j := 2) rfl
    have i1 : atI ([.ref c, .int n, .int left] : List V) 1 = some (.int n) := atI_nat (j := 1) rfl
    refine ⟨_, rfl, p, _, 2, _, rfl, rfl, SqL.of hp, i2, left, 0, rfl, rfl, _, rfl, ?_⟩
    by_cases hl : 0 < left
    · refine iteD1 hl ?_
      refine ⟨_, rfl, p, _, 2, _, rfl, rfl, SqL.of hp, i2, _, rfl, left, m, rfl, rfl, m0, ?_⟩
      refine ⟨_, rfl, p, _, 2, _, rfl, rfl, SqL.of hp, i2, _, rfl, left, m, rfl, rfl, wdiv m0 m1, ?_⟩
      refine ⟨_, rfl, p, _, 2, 2, rfl, rfl, hp, rfl, ?_⟩
      refine ⟨_, rfl, ?_⟩
      exact q _ n _ (Int.emod_nonneg _ (by omega)) (Int.emod_lt_of_pos _ m0) (by omega) (by omega) ⟨left / m, upd_same, by rw [upd_ne hpc.symm]; exact hc, hpc⟩ (but_upd fun _ _ _ e => e)
    · refine iteD0 hl ?_
      refine ⟨_, rfl, p, _, 1, _, rfl, rfl, SqL.of hp, i1, ?_⟩
      refine ⟨_, rfl, n, 1, rfl, rfl, _, rfl, p, _, 1, 1, rfl, rfl, hp, rfl, ?_⟩
      have hp2u : (upd H p (.lst [.ref c, .int (n + 1), .int left])) p = some (.lst [.ref c, .int (n + 1), .int left]) := upd_same
      have hc2u : (upd H p (.lst [.ref c, .int (n + 1), .int left])) c = some (.lst (ms.map V.int)) := by
        rw [upd_ne hpc.symm]
        exact hc
      obtain ⟨H2, eH2⟩ : ∃ H2 : Hp, upd H p (.lst [.ref c, .int (n + 1), .int left]) = H2 := ⟨_, rfl⟩
      have hp2 : H2 p = some (.lst [.ref c, .int (n + 1), .int left]) := by
        rw [← eH2]
        exact hp2u
      have hc2 : H2 c = some (.lst (ms.map V.int)) := by
        rw [← eH2]
        exact hc2u
      have sb : SameBut p H H2 := by
        rw [← eH2]
        exact but_upd fun _ _ _ e => e
      have j0 : atI ([.ref c, .int (n + 1), .int left] : List V) 0 = some (.ref c) := atI_nat (j := 0) rfl
      refine ⟨fun σ H' => ∃ cell : Int, σ = [some (.ref p), some (.int m), none, some (.int n), some (.int cell), none] ∧ H' = H2, ?_, fun σ' H' hM => ?_⟩
      · refine ⟨_, rfl, p, _, 0, _, rfl, rfl, SqL.of hp2u, j0, c, _, rfl, .inl (SqL.of hc2u), _, 0, rfl, rfl, _, rfl, ite2 (fun e => ?_) (fun e => ?_)⟩
        · have e2 : 0 < ((ms.map V.int).length : Int) := of_decide_eq_true e
          rw [List.length_map] at e2
          have hk0 := Int.emod_nonneg n (show (ms.length : Int) ≠ 0 by omega)
          have hk1 := Int.emod_lt_of_pos n e2
          have hk : (n % (ms.length : Int)).toNat < ms.length := by omega
          refine ⟨_, rfl, p, _, 0, _, rfl, rfl, SqL.of hp2u, j0, _, rfl, _, rfl, p, _, 0, _, rfl, rfl, SqL.of hp2u, j0, c, _, rfl, .inl (SqL.of hc2u), n, _, rfl, rfl, by
            show 0 < ((ms.map V.int).length : Int)
            rw [List.length_map]
            exact e2, c, _, _, .int (ms[(n % (ms.length : Int)).toNat]), rfl, rfl, SqL.of hc2u, ?_, ?_⟩
          · rw [List.length_map]
            exact at_of (j := (n % (ms.length : Int)).toNat) (by omega) (by rw [List.getElem?_map, List.getElem?_eq_getElem hk]; rfl)
          · exact ⟨_, rfl, eH2⟩
        · exact ⟨7, rfl, eH2⟩
      · obtain ⟨cell, rfl, eM⟩ := hM
        replace eM := eM.symm
        subst eM
        refine ⟨fun σ H' => σ = [some (.ref p), some (.int m), none, some (.int n), some (.int cell), none] ∧ H' = H2, ?_, fun σ' H' hM => ?_⟩
        · refine ⟨_, rfl, _, rfl, p, _, 0, _, rfl, rfl, SqL.of hp2, j0, c, _, rfl, .inl (SqL.of hc2), n, _, rfl, rfl, _, rfl, ite2 (fun _ => ?_) (fun _ => iteF ⟨rfl, rfl⟩)⟩
          refine ⟨_, rfl, 10, 18, rfl, rfl, ⟨by decide, by decide, by decide⟩, cell, _, rfl, rfl, _, rfl, ite2 (fun _ => ?_) (fun _ => ⟨rfl, rfl⟩)⟩
          refine ⟨_, rfl, _, rfl, cell, m, rfl, rfl, wdiv m0 m1, _, rfl, p, _, 2, 2, rfl, rfl, hp2, rfl, ?_⟩
          refine ⟨_, rfl, _, rfl, cell, m, rfl, rfl, m0, ?_⟩
          exact q _ (n + 1) _ (Int.emod_nonneg _ (by omega)) (Int.emod_lt_of_pos _ m0) (by omega) (by omega) ⟨cell / m, upd_same, by rw [upd_ne hpc.symm]; exact hc2, hpc⟩ (but_upd sb)
        · obtain ⟨rfl, eM⟩ := hM
          replace eM := eM.symm
          subst eM
          have c0 := Int.emod_nonneg cell (show (2147483629 : Int) ≠ 0 by decide)
          have c1 := Int.emod_lt_of_pos cell (show (0 : Int) < 2147483629 by decide)
          refine ⟨_, rfl, cell, 2147483629, rfl, rfl, (show (0 : Int) < 2147483629 by decide), _, 11, rfl, rfl, _, rfl, _, rfl, n, n, rfl, rfl, .inl ⟨by omega, by omega⟩, _, rfl, 5, n, rfl, rfl, .inl ⟨by decide, by decide⟩, _, _, rfl, rfl, _, 3, rfl, rfl, _, _, rfl, rfl, .inl ⟨by omega, by omega⟩, _, 2147483647, rfl, rfl, (show (0 : Int) < 2147483647 by decide), ?_⟩
          have hz2 : ∀ z : Int, (z % 2147483647).natAbs < 2 ^ 64 := fun z => by
            have d0 := Int.emod_nonneg z (show (2147483647 : Int) ≠ 0 by decide)
            have d1 := Int.emod_lt_of_pos z (show (0 : Int) < 2147483647 by decide)
            omega
          refine ⟨_, rfl, _, 3, rfl, rfl, ⟨by decide, by decide, hz2 _⟩, _, rfl, 69621, n, rfl, rfl, .inl ⟨by decide, by decide⟩, _, _, rfl, rfl, _, 2147483587, rfl, rfl, (show (0 : Int) < 2147483587 by decide), _, 40692, rfl, rfl, .inr ⟨by decide, by decide⟩, _, 2147483399, rfl, rfl, (show (0 : Int) < 2147483399 by decide), ?_⟩
          refine ⟨fun σ H' => ∃ z : Int, σ = [some (.ref p), some (.int m), none, some (.int n), some (.int cell), some (.int z)] ∧ H' = H2, ?_, fun σ' H' hM => ?_⟩
          · refine ⟨_, rfl, 10, 6, rfl, rfl, ⟨by decide, by decide, by decide⟩, m, _, rfl, rfl, _, rfl, ite2 (fun _ => ?_) (fun _ => ⟨_, rfl, rfl⟩)⟩
            exact ⟨_, rfl, _, 2147483629, rfl, rfl, .inr ⟨by decide, by decide⟩, _, rfl, _, 1000003, rfl, rfl, (show (0 : Int) < 1000003 by decide), _, 48271, rfl, rfl, .inr ⟨by decide, by decide⟩, _, 2147483587, rfl, rfl, (show (0 : Int) < 2147483587 by decide), _, _, rfl, rfl, _, rfl, rfl⟩
          · obtain ⟨z, rfl, eM⟩ := hM
            replace eM := eM.symm
            subst eM
            refine ⟨_, rfl, z, 64, rfl, rfl, ⟨by decide, by decide⟩, _, rfl, _, m, rfl, rfl, m0, ?_⟩
            exact q _ (n + 1) _ (Int.emod_nonneg _ (by omega)) (Int.emod_lt_of_pos _ m0) (by omega) (by omega) ⟨left, hp2, hc2, hpc⟩ sb
end
end TC
namespace TC
open PySem PySem.Spec PyProof.Rows L2 TCA
/-! ### what stands in the heap -/
abbrev Part : Type := Int × Rat
def parV (x : Part) : HO := .tup [.int x.1, .int x.2.num, .int (x.2.den : Int)]
def fraV (q : Rat) : HO := .tup [.int q.num, .int (q.den : Int)]
def Refs (H : Hp) : List Addr → List Part → Prop
  | [], [] => True
  | u :: us, x :: L => H u = some (parV x) ∧ Refs H us L
  | _, _ => False
theorem Refs.same {H H' : Hp} (e : Same H H') : ∀ {us : List Addr} {L : List Part}, Refs H us L → Refs H' us L
  | [], [], _ => trivial
  | u :: us, x :: L, h => ⟨e _ _ h.1, Refs.same e h.2⟩
  | [], _ :: _, h => h.elim
  | _ :: _, [], h => h.elim
theorem Refs.len {H : Hp} : ∀ {us : List Addr} {L : List Part}, Refs H us L → us.length = L.length
  | [], [], _ => rfl
  | u :: us, x :: L, h => congrArg Nat.succ (Refs.len h.2)
  | [], _ :: _, h => h.elim
  | _ :: _, [], h => h.elim
theorem Refs.get {H : Hp} : ∀ {us : List Addr} {L : List Part} {i : Nat} {v : V}, Refs H us L → (us.map V.ref)[i]? = some v → ∃ u x, v = .ref u ∧ us[i]? = some u ∧ L[i]? = some x ∧ H u = some (parV x)
  | [], [], i, v, _, e => by simp at e
  | u :: us, x :: L, 0, v, h, e => ⟨u, x, (Option.some.inj e).symm, rfl, rfl, h.1⟩
  | u :: us, x :: L, i + 1, v, h, e => by
    have e' : (us.map V.ref)[i]? = some v := e
    obtain ⟨u', x', a, b, c, d⟩ := Refs.get h.2 e'
    exact ⟨u', x', a, b, c, d⟩
  | [], _ :: _, _, _, h, _ => h.elim
  | _ :: _, [], _, _, h, _ => h.elim
theorem Refs.snoc {H : Hp} {u : Addr} {x : Part} (hu : H u = some (parV x)) : ∀ {us : List Addr} {L : List Part}, Refs H us L → Refs H (us ++ [u]) (L ++ [x])
  | [], [], _ => ⟨hu, trivial⟩
  | v :: us, y :: L, h => ⟨h.1, Refs.snoc hu h.2⟩
  | [], _ :: _, h => h.elim
  | _ :: _, [], h => h.elim
theorem Refs.all {H : Hp} : ∀ {us : List Addr} {L : List Part}, Refs H us L → ∀ u ∈ us, ∃ x, H u = some (parV x)
  | [], [], _, u, hu => by cases hu
  | v :: us, y :: L, h, u, hu => by
    rcases List.mem_cons.mp hu with e | e
    · rw [e]
      exact ⟨y, h.1⟩
    · exact Refs.all h.2 u e
  | [], _ :: _, h, _, _ => h.elim
  | _ :: _, [], h, _, _ => h.elim
theorem Refs.upd {H : Hp} {l : Addr} {o : HO} (hl : ∀ x, H l ≠ some (parV x)) : ∀ {us : List Addr} {L : List Part}, Refs H us L → Refs (L2.upd H l o) us L
  | [], [], _ => trivial
  | u :: us, x :: L, h => ⟨by
    rw [upd_ne fun e => hl x (by rw [← e]; exact h.1)]
    exact h.1, Refs.upd hl h.2⟩
  | [], _ :: _, h => h.elim
  | _ :: _, [], h => h.elim
def PartsL (H : Hp) (p : Addr) (L : List Part) : Prop := ∃ us, H p = some (.tup (us.map V.ref)) ∧ Refs H us L
theorem PartsL.same {H H' : Hp} {p : Addr} {L : List Part} (e : Same H H') (h : PartsL H p L) : PartsL H' p L := by
  obtain ⟨us, h1, h2⟩ := h
  exact ⟨us, e _ _ h1, h2.same e⟩
def NumAt (C : Addr) (H : Hp) (x : Addr) (L : List Part) : Prop := ∃ dx p, H x = some (.ins C dx [("parts", .ref p)]) ∧ PartsL H p L
theorem NumAt.same {C : Addr} {H H' : Hp} {x : Addr} {L : List Part} (e : Same H H') (h : NumAt C H x L) : NumAt C H' x L := by
  obtain ⟨dx, p, h1, h2⟩ := h
  exact ⟨dx, p, e _ _ h1, h2.same e⟩
/-! ### as data -/
def parD (x : Part) : PyData := .tuple [.int x.1, .int x.2.num, .int (x.2.den : Int)]
def toD (L : List Part) : PyData := .tuple (L.map parD)
theorem Refs.dp {K : PySem.W.Frag} {H : Hp} : ∀ {us : List Addr} {L : List Part}, Refs H us L → DpAll K H (us.map V.ref) (L.map parD)
  | [], [], _ => .nil
  | u :: us, x :: L, h => .cons (.tup (SqT.of h.1) (.cons (.int _) (.cons (.int _) (.cons (.int _) .nil)))) (Refs.dp h.2)
  | [], _ :: _, h => h.elim
  | _ :: _, [], h => h.elim
theorem PartsL.dp {K : PySem.W.Frag} {H : Hp} {p : Addr} {L : List Part} (h : PartsL H p L) : Dp K H (.ref p) (toD L) := by
  obtain ⟨us, h1, h2⟩ := h
  exact .tup (SqT.of h1) h2.dp
theorem toD_shaped (L : List Part) : SeqAt.shaped (toD L) = true := by
  have h1 : ∀ L : List Part, PyData.canLayAll0 (L.map parD) = true := fun L => by
    induction L with
    | nil => rfl
    | cons x L ih =>
      show (PyData.canLay0 (parD x) && PyData.canLayAll0 (L.map parD)) = true
      rw [ih]
      rfl
  have h2 : ∀ L : List Part, PyData.depthAll (L.map parD) ≤ 1 := fun L => by
    induction L with
    | nil => exact Nat.zero_le _
    | cons x L ih =>
      show max (PyData.depth (parD x)) (PyData.depthAll (L.map parD)) ≤ 1
      exact Nat.max_le.mpr ⟨Nat.le_refl 1, ih⟩
  show (PyData.canLayAll0 (L.map parD) && decide (PyData.depthAll (L.map parD) + 1 ≤ 64)) = true
  rw [h1, decide_eq_true (by have := h2 L; omega)]
  rfl
theorem parD_eqv (x y : Part) : PyData.eqv (parD x) (parD y) = decide (x = y) := by
  obtain ⟨r, q⟩ := x
  obtain ⟨s, p⟩ := y
  simp only [parD, PyData.eqv, PyData.eqvAll]
  by_cases h1 : r = s
  · by_cases h2 : q = p
    · subst h1
      subst h2
      simp
    · have h3 : ¬ (q.num = p.num ∧ (q.den : Int) = (p.den : Int)) := fun z => h2 (Rat.ext z.1 (by omega))
      have h4 : ¬ ((r, q) = (s, p)) := fun z => h2 (Prod.ext_iff.mp z).2
      rw [decide_eq_false h4]
      rcases Classical.not_and_iff_not_or_not.mp h3 with z | z
      · simp [z]
      · have z2 : ¬ q.den = p.den := fun w => z (by rw [w])
        simp [z2]
        exact fun _ _ => z
  · have h4 : ¬ ((r, q) = (s, p)) := fun z => h1 (Prod.ext_iff.mp z).1
    rw [decide_eq_false h4]
    simp [h1]
theorem toD_eqv (L M : List Part) : PyData.eqv (toD L) (toD M) = decide (L = M) := by
  show PyData.eqvAll (L.map parD) (M.map parD) = decide (L = M)
  induction L generalizing M with
  | nil =>
    cases M with
    | nil => rfl
    | cons y M => rfl
  | cons x L ih =>
    cases M with
    | nil => rfl
    | cons y M =>
      show (PyData.eqv (parD x) (parD y) && PyData.eqvAll (L.map parD) (M.map parD)) = _
      rw [parD_eqv, ih]
      by_cases h1 : x = y <;> by_cases h2 : L = M <;> simp [h1, h2]
/-! ### dicts from roots to fractions -/
def DictAt (H : Hp) (d : Addr) (ks : List Int) (g : Int → Rat) : Prop := ∃ kvs, H d = some (.dK kvs) ∧ kvs.map (·.1) = ks.map (Sum.inl : Int → Key) ∧
  (∀ r ∈ ks, ∃ u, valV kvs (Sum.inl r : Key) = some (.ref u) ∧ H u = some (fraV (g r))) ∧ ks.Nodup ∧ ∀ r, r ∉ ks → g r = 0
theorem DictAt.same {H H' : Hp} {d : Addr} {ks : List Int} {g : Int → Rat} (e : Same H H') (h : DictAt H d ks g) : DictAt H' d ks g := by
  obtain ⟨kvs, h1, h2, h3, h4⟩ := h
  exact ⟨kvs, e _ _ h1, h2, fun r hr => by
    obtain ⟨u, a, b⟩ := h3 r hr
    exact ⟨u, a, e _ _ b⟩, h4⟩
theorem DictAt.imp {H : Hp} {d : Addr} {ks : List Int} {g g' : Int → Rat} (h : DictAt H d ks g) (e : ∀ r, g r = g' r) : DictAt H d ks g' := by
  have : g = g' := funext e
  rw [← this]
  exact h
def addKey (ks : List Int) (r : Int) : List Int := if r ∈ ks then ks else ks ++ [r]
def setF (g : Int → Rat) (r : Int) (q : Rat) : Int → Rat := fun s => if s = r then q else g s
theorem addKey_len (ks : List Int) (r : Int) : (addKey ks r).length ≤ ks.length + 1 := by
  unfold addKey
  split
  · omega
  · rw [List.length_append, List.length_singleton]
    exact Nat.le_refl _
theorem mem_addKey {ks : List Int} {r s : Int} : s ∈ addKey ks r ↔ s ∈ ks ∨ s = r := by
  unfold addKey
  split
  · rename_i h
    exact ⟨.inl, fun z => z.elim id fun e => e ▸ h⟩
  · simp
theorem inl_ne {a b : Int} (h : a ≠ b) : (Sum.inl a : Key) ≠ Sum.inl b := fun e => h (Sum.inl.inj e)
theorem valV_out {kvs : List (Key × V)} {ks : List Int} {r : Int} (e : kvs.map (·.1) = ks.map (Sum.inl : Int → Key)) (h : r ∉ ks) : valV kvs (Sum.inl r : Key) = none := by
  cases z : valV kvs (Sum.inl r : Key) with
  | none => rfl
  | some v =>
    have m := valV_in z
    rw [e] at m
    obtain ⟨s, hs, es⟩ := List.mem_map.mp m
    exact absurd (Sum.inl.inj es ▸ hs) h
theorem keys_put {kvs : List (Key × V)} {ks : List Int} {r : Int} {v : V} (e : kvs.map (·.1) = ks.map (Sum.inl : Int → Key)) : (putK kvs (Sum.inl r : Key) v).map (·.1) = (addKey ks r).map (Sum.inl : Int → Key) := by
  unfold putK addKey
  by_cases h : r ∈ ks
  · have a : (kvs.any fun kv => decide (kv.1 = (Sum.inl r : Key))) = true := by
      have m : (Sum.inl r : Key) ∈ kvs.map (·.1) := by
        rw [e]
        exact List.mem_map.mpr ⟨r, h, rfl⟩
      obtain ⟨p, hp, ep⟩ := List.mem_map.mp m
      exact List.any_eq_true.mpr ⟨p, hp, decide_eq_true ep⟩
    rw [if_pos a, if_pos h, List.map_map, ← e]
    refine List.map_congr_left fun kv _ => ?_
    show (if kv.1 = (Sum.inl r : Key) then (kv.1, v) else kv).1 = kv.1
    split <;> rfl
  · have a : ¬ (kvs.any fun kv => decide (kv.1 = (Sum.inl r : Key))) = true := by
      rw [valV_any, valV_out e h]
      decide
    rw [if_neg a, if_neg h, List.map_append, List.map_append, e]
    rfl
theorem nd_addKey {ks : List Int} {r : Int} (h : ks.Nodup) : (addKey ks r).Nodup := by
  unfold addKey
  split
  · exact h
  · rename_i z
    rw [List.nodup_append]
    refine ⟨h, by simp, fun a ha b hb => ?_⟩
    rw [List.mem_singleton.mp hb]
    exact fun e => z (e ▸ ha)
theorem put_ok {H : Hp} {d u : Addr} {kvs : List (Key × V)} {ks : List Int} {g : Int → Rat} {r : Int} {q : Rat} (e : H d = some (.dK kvs)) (ek : kvs.map (·.1) = ks.map (Sum.inl : Int → Key))
    (hv : ∀ r ∈ ks, ∃ u, valV kvs (Sum.inl r : Key) = some (.ref u) ∧ H u = some (fraV (g r))) (nd : ks.Nodup) (out : ∀ r, r ∉ ks → g r = 0) (hu : H u = some (fraV q)) :
    DictAt (upd H d (.dK (putK kvs (Sum.inl r : Key) (.ref u)))) d (addKey ks r) (setF g r q) := by
  have nu : ∀ {v : Addr} {p : Rat}, H v = some (fraV p) → v ≠ d := fun {v p} hv z => by
    rw [z, e] at hv
    cases hv
  refine ⟨_, upd_same, keys_put ek, fun s hs => ?_, nd_addKey nd, fun s hs => ?_⟩
  · rw [valV_put]
    by_cases es : s = r
    · subst es
      refine ⟨u, if_pos rfl, ?_⟩
      rw [upd_ne (nu hu)]
      show H u = some (fraV (if s = s then q else g s))
      rw [if_pos rfl]
      exact hu
    · have hs' : s ∈ ks := (mem_addKey.mp hs).resolve_right es
      obtain ⟨v, a, b⟩ := hv s hs'
      refine ⟨v, by rw [if_neg (inl_ne es)]; exact a, ?_⟩
      rw [upd_ne (nu b)]
      show H v = some (fraV (if s = r then q else g s))
      rw [if_neg es]
      exact b
  · have h1 : s ∉ ks := fun z => hs (mem_addKey.mpr (.inl z))
    have h2 : s ≠ r := fun z => hs (mem_addKey.mpr (.inr z))
    show (if s = r then q else g s) = 0
    rw [if_neg h2, out s h1]
theorem dget_in {H : Hp} {d : Addr} {kvs : List (Key × V)} {r : Int} {v : V} (e : H d = some (.dK kvs)) (h : valV kvs (Sum.inl r : Key) = some v) : DGet H d (.int r) (some v) := by
  have z := DGet.k (k := (Sum.inl r : Key)) e
  rw [h] at z
  exact z
theorem dget_out {H : Hp} {d : Addr} {kvs : List (Key × V)} {r : Int} (e : H d = some (.dK kvs)) (h : valV kvs (Sum.inl r : Key) = none) : DGet H d (.int r) none := by
  have z := DGet.k (k := (Sum.inl r : Key)) e
  rw [h] at z
  exact z
theorem len_keys {kvs : List (Key × V)} {ks : List Int} (e : kvs.map (·.1) = ks.map (Sum.inl : Int → Key)) : kvs.length = ks.length := by
  have := congrArg List.length e
  simpa using this
end TC
namespace TC
open PySem PySem.Spec PyProof.Rows L2 TCA
theorem fdiv_nat (m n : Nat) : (m : Int).fdiv (n : Int) = ((m / n : Nat) : Int) := by
  rw [Int.fdiv_eq_ediv_of_nonneg _ (by omega)]
  rfl
theorem cdivn {i : Int} {n B : Nat} (h0 : 0 < n) (h : n < 2 ^ B) (hB : 0 < B) (hB2 : B ≤ 8000) : CDivNW i (n : Int) := ⟨by omega, log_lt (n := B) (by omega) hB (by rw [Int.natAbs_natCast]; exact h)⟩
theorem cmulw {i j : Int} {A B : Nat} (h1 : i.natAbs < 2 ^ A) (h2 : j.natAbs < 2 ^ B) (hA : 0 < A) (hB : 0 < B) (h : A + B ≤ 100000) : CMulW i j := wide_mul h1 h2 hA hB (by omega)
abbrev kwE : List (Str × V) := [("bottom", .int 1), ("root", .int 1)]
abbrev psE : List Str := ["top", "bottom", "root"]
/-- the parts of top / bottom times the root of a number with the squares taken out -/
def oneL (r t b : Int) : List Part := if t = 0 then [] else [(r, Rat.divInt t b)]
def exL (t b r : Int) : List Part := oneL (TCM.sqOut r).2.1 (t * (TCM.sqOut r).1) b
def RootOk (r : Int) : Prop := 0 ≤ r ∧ r ≤ 1000000 ∧ (TCM.sqOut r).2.2 = 1 ∧ 0 ≤ (TCM.sqOut r).1 ∧ (TCM.sqOut r).1 ≤ 1000
section
variable {P : Program} {w : World} {K : PySem.W.Frag} {mg : Str → Option Value} {base : Heap} {f : Addr} {fd : FuncData} {C fI fQ : Addr}
theorem kit_self : PySem.W.kitOne K (.ref C) (.ref C) = some true := by
  show (if ((Value.ref C) == (Value.ref C)) = true then some true else _) = some true
  rw [if_pos (by simp)]
/-! ### __init__ -/
def spInit (C : Addr) : Sp := fun vs H Q _ => ∃ (x dx : Addr) (v : V), vs = [.ref x, v] ∧ H x = some (.ins C dx []) ∧ Q .non (upd H x (.ins C dx [("parts", v)]))
/-- Exact(p) behind its making -/
theorem made_num {H : Hp} {p : Addr} {L : List Part} {Q : VK} (hp : PartsL H p L) (q : ∀ x H', Same H H' → H x = none → NumAt C H' x L → Q (.ref x) H') :
    ∀ x dx, H x = none → H dx = none → dx ≠ x → spInit C (.ref x :: ([.ref p] ++ [])) (upd (upd H dx (.own x)) x (.ins C dx [])) (fun v H2 => v = .non ∧ Q (.ref x) H2) E0 := by
  intro x dx hx hdx hne
  refine ⟨x, dx, .ref p, rfl, upd_same, rfl, ?_⟩
  have smx : Same H (upd (upd (upd H dx (.own x)) x (.ins C dx [])) x (.ins C dx [("parts", .ref p)])) := fun b o e => by
    rw [upd_ne (ne_of_none e hx), upd_ne (ne_of_none e hx), upd_ne (ne_of_none e hdx)]
    exact e
  exact q x _ smx hx ⟨dx, p, upd_same, hp.same smx⟩
/-! ### __eq__ -/
def spEqN (C : Addr) : Sp := fun vs H Q _ => ∃ (x y : Addr) (L M : List Part), vs = [.ref x, .ref y] ∧ NumAt C H x L ∧ NumAt C H y M ∧ Q (.bl (decide (L = M))) H
/-! ### need_exact -/
def spNeed (C : Addr) : Sp := fun vs H Q _ => ∃ (x : Addr) (L : List Part), vs = [.ref x] ∧ NumAt C H x L ∧ Q .non H
/-! ### lowered, of one root -/
end
end TC
namespace TC
open PySem PySem.Spec PyProof.Rows L2 TCA
theorem same_at {H H1 : Hp} {d : Addr} {o : HO} (s : Same H H1) (h : H d = none) : Same H (upd H1 d o) := fun b x e => by
  rw [upd_ne (ne_of_none e h)]
  exact s _ _ e
theorem rfst (x : Part) : parV x = .tup [.int x.1, .int x.2.num, .int (x.2.den : Int)] := rfl
section
variable {P : Program} {w : World} {K : PySem.W.Frag} {mg : Str → Option Value} {base : Heap} {f : Addr} {fd : FuncData} {C fI fQ : Addr}
end
end TC
namespace TC
open PySem PySem.Spec PyProof.Rows L2 TCA
def Good (A : Nat) (L : List Part) : Prop := TCR.Canon L ∧ ∀ x ∈ L, TCR.Sz A x.2
theorem good_of {N : List Part} {A : Nat} (c : TCR.Canon N) (h : ∀ r, TCR.Sz A (TCR.val N r)) : Good A N := ⟨c, fun x hx => by
  rw [← c.mem hx]
  exact h _⟩
theorem Good.val {N : List Part} {A : Nat} (h : Good A N) (h0 : 0 < A) (r : Int) : TCR.Sz A (TCR.val N r) := TCR.Sz.val h0 h.2 r
theorem Good.mono {N : List Part} {A B : Nat} (h : Good A N) (l : A ≤ B) : Good B N := ⟨h.1, fun x hx => (h.2 x hx).mono l⟩
theorem Good.nil {A : Nat} : Good A [] := ⟨TCR.canon_nil, fun x hx => by cases hx⟩
theorem negL_len (L : List Part) : (TCR.negL L).length = L.length := List.length_map ..
theorem negL_snoc (L : List Part) (x : Part) : TCR.negL (L ++ [x]) = TCR.negL L ++ [(x.1, -x.2)] := List.map_append ..
section
variable {P : Program} {w : World} {K : PySem.W.Frag} {mg : Str → Option Value} {base : Heap} {f : Addr} {fd : FuncData} {C fI fQ : Addr}
end
end TC
namespace TC
open PySem PySem.Spec PyProof.Rows L2 TCA
/-- a dict of roots to whole tops -/
def IntD (H : Hp) (d : Addr) (ks : List Int) (t : Int → Int) : Prop := ∃ kvs, H d = some (.dK kvs) ∧ kvs.map (·.1) = ks.map (Sum.inl : Int → Key) ∧ (∀ r ∈ ks, valV kvs (Sum.inl r : Key) = some (.int (t r))) ∧ ks.Nodup ∧ ∀ r, r ∉ ks → t r = 0
theorem IntD.same {H H' : Hp} {d : Addr} {ks : List Int} {t : Int → Int} (e : Same H H') (h : IntD H d ks t) : IntD H' d ks t := by
  obtain ⟨kvs, h1, h2⟩ := h
  exact ⟨kvs, e _ _ h1, h2⟩
theorem IntD.upd {H : Hp} {d l : Addr} {o : HO} {ks : List Int} {t : Int → Int} (n : d ≠ l) (h : IntD H d ks t) : IntD (L2.upd H l o) d ks t := by
  obtain ⟨kvs, h1, h2⟩ := h
  exact ⟨kvs, by rw [upd_ne n]; exact h1, h2⟩
theorem IntD.imp {H : Hp} {d : Addr} {ks : List Int} {t t' : Int → Int} (h : IntD H d ks t) (e : ∀ r, t r = t' r) : IntD H d ks t' := by
  have : t = t' := funext e
  rw [← this]
  exact h
theorem divInt_zero (b : Int) : Rat.divInt 0 b = 0 := Rat.zero_divInt b
theorem divInt_ne {t b : Int} (hb : b ≠ 0) (ht : t ≠ 0) : Rat.divInt t b ≠ 0 := fun e => by
  rw [← divInt_zero 1, Rat.divInt_eq_divInt_iff hb (by decide)] at e
  simp at e
  exact ht e
section
variable {P : Program} {w : World} {K : PySem.W.Frag} {mg : Str → Option Value} {base : Heap} {f : Addr} {fd : FuncData} {C fI fQ : Addr}
/-! ### lowered, of many roots -/
def spLowered (C : Addr) : Sp := fun vs H Q _ => ∃ (d : Addr) (ks : List Int) (t : Int → Int) (b : Int) (A : Nat), vs = [.ref d, .int b] ∧ IntD H d ks t ∧ b ≠ 0 ∧ b.natAbs < 2 ^ A ∧ 0 < A ∧ A ≤ 8000 ∧ ks.length ≤ 900 ∧
  ∀ x N H', Same H H' → H x = none → NumAt C H' x N → TCR.Canon N → (∀ r, TCR.val N r = Rat.divInt (t r) b) → N.length ≤ ks.length → Q (.ref x) H'
end
end TC
namespace TC
open PySem PySem.Spec PyProof.Rows L2 TCA
def setI (t : Int → Int) (r z : Int) : Int → Int := fun s => if s = r then z else t s
theorem putI_ok {H : Hp} {d : Addr} {kvs : List (Key × V)} {ks : List Int} {t : Int → Int} {r z : Int} (ek : kvs.map (·.1) = ks.map (Sum.inl : Int → Key))
    (hv : ∀ r ∈ ks, valV kvs (Sum.inl r : Key) = some (.int (t r))) (nd : ks.Nodup) (out : ∀ r, r ∉ ks → t r = 0) :
    IntD (upd H d (.dK (putK kvs (Sum.inl r : Key) (.int z)))) d (addKey ks r) (setI t r z) := by
  refine ⟨_, upd_same, keys_put ek, fun s hs => ?_, nd_addKey nd, fun s hs => ?_⟩
  · rw [valV_put]
    by_cases es : s = r
    · rw [es, if_pos rfl]
      show some (V.int z) = some (V.int (if r = r then z else t r))
      rw [if_pos rfl]
    · have hs' : s ∈ ks := (mem_addKey.mp hs).resolve_right es
      rw [if_neg (inl_ne es), hv s hs']
      show _ = some (V.int (if s = r then z else t s))
      rw [if_neg es]
  · have h1 : s ∉ ks := fun z => hs (mem_addKey.mpr (.inl z))
    have h2 : s ≠ r := fun z => hs (mem_addKey.mpr (.inr z))
    show (if s = r then z else t s) = 0
    rw [if_neg h2, out s h1]
/-- the tops over one bottom -/
def topsOf (L : List Part) (c : Nat) (r : Int) : Int := (TCR.val L r).num * ((c / (TCR.val L r).den : Nat) : Int)
theorem topsOf_div {L : List Part} {c : Nat} (hc : 0 < c) (r : Int) (h : (TCR.val L r).den ∣ c) : Rat.divInt (topsOf L c r) (c : Int) = TCR.val L r := by
  have dp := (TCR.val L r).den_pos
  have d0 : ((TCR.val L r).den : Int) ≠ 0 := by omega
  have c0 : ((c : Nat) : Int) ≠ 0 := by omega
  have e : Rat.divInt (topsOf L c r) (c : Int) = Rat.divInt (TCR.val L r).num ((TCR.val L r).den : Int) := by
    rw [Rat.divInt_eq_divInt_iff c0 d0]
    unfold topsOf
    rw [Int.mul_assoc]
    congr 1
    rw [← Int.natCast_mul, Nat.div_mul_cancel h]
  rw [e, Rat.num_divInt_den]
theorem den_val {L : List Part} {D : Nat} (h : ∀ x ∈ L, x.2.den ∣ D) (c : TCR.Canon L) (r : Int) : (TCR.val L r).den ∣ D := by
  rcases Classical.em (∃ q, (r, q) ∈ L) with ⟨q, z⟩ | z
  · rw [c.mem z]
    exact h _ z
  · rw [TCR.val_not fun x hx e => z ⟨x.2, by rw [← e]; exact hx⟩]
    exact Nat.one_dvd _
section
variable {P : Program} {w : World} {K : PySem.W.Frag} {mg : Str → Option Value} {base : Heap} {f : Addr} {fd : FuncData} {C fI fQ : Addr}
/-! ### on_one_bottom -/
def spOneB : Sp := fun vs H Q _ => ∃ (p : Addr) (L : List Part) (D A B : Nat), vs = [.ref p] ∧ PartsL H p L ∧ TCR.Canon L ∧ (∀ x ∈ L, x.2.den ∣ D) ∧ 0 < D ∧ D < 2 ^ B ∧ 0 < B ∧ B ≤ 8000 ∧ (∀ x ∈ L, x.2.num.natAbs < 2 ^ A) ∧ 0 < A ∧ A ≤ 20000 ∧ L.length ≤ 60 ∧
  ∀ (v d : Addr) (c : Nat) H', Same H H' → H v = none → H' v = some (.tup [.ref d, .int (c : Int)]) → H d = none → IntD H' d (L.map (·.1)) (topsOf L c) → 0 < c → c ∣ D → (∀ x ∈ L, x.2.den ∣ c) → Q (.ref v) H'
end
end TC
namespace TC
open PySem PySem.Spec PyProof.Rows L2 TCA
theorem dget_rd {H : Hp} {d : Addr} {kvs : List (Key × V)} {r : Int} {v : V} (e : Rd H d (.dK kvs)) (h : valV kvs (Sum.inl r : Key) = some v) : DGet H d (.int r) (some v) := by
  have z : DGet H d (kV (Sum.inl r : Key)) (valV kvs (Sum.inl r : Key)) := .inl ⟨kvs, Sum.inl r, e, rfl, rfl⟩
  rw [h] at z
  exact z
theorem key_at {kvs : List (Key × V)} {ks : List Int} {i : Nat} {k : Key} {v : V} (e : kvs.map (·.1) = ks.map (Sum.inl : Int → Key)) (h : kvs[i]? = some (k, v)) : ∃ r, ks[i]? = some r ∧ k = Sum.inl r := by
  have z : (kvs.map (·.1))[i]? = some k := by
    rw [List.getElem?_map, h]
    rfl
  rw [e, List.getElem?_map] at z
  cases q : ks[i]? with
  | none =>
    rw [q] at z
    cases z
  | some r =>
    rw [q] at z
    exact ⟨r, rfl, (Option.some.inj z).symm⟩
theorem valV_drop {kvs : List (Key × V)} {k j : Key} : valV (dropK kvs k) j = if j = k then none else valV kvs j := by
  induction kvs with
  | nil => simp [dropK, valV]
  | cons p r ih =>
    by_cases e : p.1 = k
    · rw [dropK_pos e, ih]
      by_cases ej : j = k
      · rw [if_pos ej, if_pos ej]
      · rw [if_neg ej, if_neg ej, valV_neg (p := p) fun z => ej (z.symm.trans e)]
    · rw [dropK_neg e]
      by_cases ep : p.1 = j
      · rw [valV_pos ep, valV_pos ep, if_neg fun z => e (ep.trans z)]
      · rw [valV_neg ep, valV_neg ep, ih]
theorem keys_drop {kvs : List (Key × V)} {ks : List Int} {r : Int} (e : kvs.map (·.1) = ks.map (Sum.inl : Int → Key)) : (dropK kvs (Sum.inl r : Key)).map (·.1) = (ks.filter fun s => decide (s ≠ r)).map (Sum.inl : Int → Key) := by
  induction kvs generalizing ks with
  | nil =>
    cases ks with
    | nil => rfl
    | cons a ks => cases e
  | cons p kvs ih =>
    cases ks with
    | nil => cases e
    | cons a ks =>
      have e1 : p.1 = Sum.inl a := (List.cons.inj e).1
      have e2 : kvs.map (·.1) = ks.map (Sum.inl : Int → Key) := (List.cons.inj e).2
      by_cases h : a = r
      · rw [dropK_pos (by rw [e1, h]), List.filter_cons, if_neg (by simp [h])]
        exact ih e2
      · rw [dropK_neg (by rw [e1]; exact inl_ne h), List.filter_cons, if_pos (by simp [h]), List.map_cons, List.map_cons, ih e2, e1]
theorem mem_take_succ {ks : List Int} {i : Nat} {r s : Int} (h : ks[i]? = some r) : s ∈ ks.take (i + 1) ↔ s ∈ ks.take i ∨ s = r := by
  rw [List.take_add_one, h]
  simp
theorem mem_drop_of {ks : List Int} {i : Nat} {r : Int} (h : ks[i]? = some r) : ks.drop i = r :: ks.drop (i + 1) := by
  obtain ⟨hl, e⟩ := List.getElem?_eq_some_iff.mp h
  rw [List.drop_eq_getElem_cons hl, e]
theorem nd_not_take {ks : List Int} (nd : ks.Nodup) {i : Nat} {r : Int} (h : ks[i]? = some r) : r ∉ ks.take i := fun m => by
  obtain ⟨j, hj, e⟩ := List.mem_iff_getElem.mp m
  rw [List.length_take] at hj
  rw [List.getElem_take] at e
  obtain ⟨hl, e2⟩ := List.getElem?_eq_some_iff.mp h
  have := (List.getElem_inj nd (h₀ := by omega) (h₁ := hl)).mp (e.trans e2.symm)
  omega
def Clear (ks : List Int) (g : Int → Rat) : Prop := ∀ r ∈ ks, g r ≠ 0
section
variable {P : Program} {w : World} {K : PySem.W.Frag} {mg : Str → Option Value} {base : Heap} {f : Addr} {fd : FuncData} {C fI fQ : Addr}
/-! ### _law_cleared -/
def spCleared : Sp := fun vs H Q _ => ∃ (d : Addr) (ks : List Int) (g : Int → Rat), vs = [.ref d] ∧ DictAt H d ks g ∧ ks.length ≤ 900 ∧
  ∀ d' ks' H', Same H H' → H d' = none → DictAt H' d' ks' g → Clear ks' g → ks'.length ≤ ks.length → (∀ r ∈ ks', r ∈ ks) → Q (.ref d') H'
end
end TC
namespace TC
open PySem PySem.Spec PyProof.Rows L2 TCA
/-! ### sums over pairs of roots -/
def sumI : List Int → Int
  | [] => 0
  | a :: l => a + sumI l
theorem sumI_append : ∀ (l m : List Int), sumI (l ++ m) = sumI l + sumI m
  | [], m => by show sumI m = 0 + sumI m; omega
  | a :: l, m => by
    show a + sumI (l ++ m) = a + sumI l + sumI m
    rw [sumI_append l m]
    omega
def gR (r s : Int) : Int := ((Int.gcd r s : Nat) : Int)
def mulR (r s : Int) : Int := r.fdiv (gR r s) * s.fdiv (gR r s)
def rowI (r z : Int) (k2 : List Int) (t2 : Int → Int) (u : Int) : Int := sumI (k2.map fun s => if mulR r s = u then z * t2 s * gR r s else 0)
def prodI (k1 k2 : List Int) (t1 t2 : Int → Int) (u : Int) : Int := sumI (k1.map fun r => rowI r (t1 r) k2 t2 u)
theorem rowI_succ {r z : Int} {k2 : List Int} {t2 : Int → Int} {j : Nat} {s : Int} (h : k2[j]? = some s) (u : Int) : rowI r z (k2.take (j + 1)) t2 u = rowI r z (k2.take j) t2 u + if mulR r s = u then z * t2 s * gR r s else 0 := by
  unfold rowI
  rw [List.take_add_one, h, List.map_append, sumI_append]
  show _ + (_ + 0) = _
  rw [Int.add_zero]
theorem prodI_succ {k1 k2 : List Int} {t1 t2 : Int → Int} {i : Nat} {r : Int} (h : k1[i]? = some r) (u : Int) : prodI (k1.take (i + 1)) k2 t1 t2 u = prodI (k1.take i) k2 t1 t2 u + rowI r (t1 r) k2 t2 u := by
  unfold prodI
  rw [List.take_add_one, h, List.map_append, sumI_append]
  show _ + (_ + 0) = _
  rw [Int.add_zero]
theorem valV_get : ∀ {kvs : List (Key × V)} {i : Nat} {k : Key} {v : V}, (kvs.map (·.1)).Nodup → kvs[i]? = some (k, v) → valV kvs k = some v
  | [], i, k, v, _, h => by simp at h
  | p :: kvs, 0, k, v, _, h => by
    have e : p = (k, v) := by simpa using h
    rw [e]
    exact valV_pos rfl
  | p :: kvs, i + 1, k, v, nd, h => by
    have h' : kvs[i]? = some (k, v) := by simpa using h
    have n := List.nodup_cons.mp nd
    rw [valV_neg fun e => n.1 (by
      show p.1 ∈ _
      rw [e]
      exact List.mem_map.mpr ⟨_, List.mem_of_getElem? h', rfl⟩)]
    exact valV_get n.2 h'
theorem int_at {kvs : List (Key × V)} {ks : List Int} {t : Int → Int} {i : Nat} {x y : V} (e2 : kvs.map (·.1) = ks.map (Sum.inl : Int → Key)) (e3 : ∀ r ∈ ks, valV kvs (Sum.inl r : Key) = some (.int (t r))) (nd : ks.Nodup)
    (hx : (kvs[i]?.map fun kv => kV kv.1) = some x) (hy : (kvs[i]?.map Prod.snd) = some y) : ∃ r, ks[i]? = some r ∧ x = .int r ∧ y = .int (t r) := by
  cases e : kvs[i]? with
  | none =>
    rw [e] at hx
    cases hx
  | some kv =>
    obtain ⟨k, v⟩ := kv
    rw [e] at hx hy
    obtain ⟨r, hr, rfl⟩ := key_at e2 e
    have ndk : (kvs.map (·.1)).Nodup := by
      rw [e2]
      exact List.pairwise_map.mpr (nd.imp fun {a b} z => inl_ne z)
    have hv := valV_get ndk e
    rw [e3 r (List.mem_of_getElem? hr)] at hv
    refine ⟨r, hr, (Option.some.inj hx).symm, ?_⟩
    rw [Option.some.inj hv]
    exact (Option.some.inj hy).symm
section
variable {J : It} {n : Nat} {G : Hp → Prop} {Y : Nat → Hp → V → Hp → Prop}
theorem dc_it (w : Walk J n G Y) {g : TG} {tt : TT} {tk tv : TE} {vs : List Nat} {σ : L2.St} {H1 : Hp} {D : Addr} {Qd : Hp → Prop} (Pv : Nat → Hp → Prop) (h0 : Pv 0 (upd H1 D (.dK []))) (hG : ∀ i H, i ≤ n → Pv i H → G H)
    (hs : ∀ i x H H', i < n → Pv i H → Y i H x H' → g x (wipe σ vs) H' fun σ2 H2 => wipe σ2 vs = wipe σ vs ∧ tt σ2 H2 fun b H3 =>
      if b = true then tk σ2 H3 fun y H4 => tv σ2 H4 fun z H5 => ∃ kvs k, y = kV k ∧ H5 D = some (.dK kvs) ∧ kvs.length < sizeLine ∧ Pv (i + 1) (upd H5 D (.dK (putK kvs k z))) else Pv (i + 1) H3) (hd : ∀ H, Pv n H → Qd H) :
    ∃ W : Nat → Nat → Hp → Prop, (∃ m, W 0 m (upd H1 D (.dK []))) ∧ ∀ i m H, W i m H →
      (J.stop i H ∧ Qd H) ∨ (J.go i H ∧ ∃ Nx : Hp → Prop, (∀ H', Nx H' → ∃ m', m' < m ∧ W (i + 1) m' H') ∧ ∀ x H', J.yld i H x H' → g x (wipe σ vs) H' fun σ2 H2 => wipe σ2 vs = wipe σ vs ∧ tt σ2 H2 fun b H3 =>
        if b = true then tk σ2 H3 fun y H4 => tv σ2 H4 fun z H5 => ∃ kvs k, y = kV k ∧ H5 D = some (.dK kvs) ∧ kvs.length < sizeLine ∧ Nx (upd H5 D (.dK (putK kvs k z))) else Nx H3) := by
  refine ⟨fun i m H => m = n - i ∧ i ≤ n ∧ Pv i H, ⟨n, by simp, Nat.zero_le _, h0⟩, ?_⟩
  rintro i m H ⟨rfl, hi, p⟩
  have q := hG i H hi p
  by_cases hlt : i < n
  · exact .inr ⟨w.goes i H hlt q, Pv (i + 1), fun H' p' => ⟨n - (i + 1), by omega, rfl, hlt, p'⟩, fun x H' y => hs i x H H' hlt p (w.yields i H x H' hlt q y)⟩
  · have e : i = n := by omega
    subst e
    exact .inl ⟨w.stops H q, hd H p⟩
end
section
variable {P : Program} {w : World} {K : PySem.W.Frag} {mg : Str → Option Value} {base : Heap} {f : Addr} {fd : FuncData} {C fI fQ : Addr}
/-! ### products -/
def spProducts : Sp := fun vs H Q _ => ∃ (d1 d2 : Addr) (k1 k2 : List Int) (t1 t2 : Int → Int) (A B R : Nat), vs = [.ref d1, .ref d2] ∧ d1 ≠ d2 ∧ IntD H d1 k1 t1 ∧ IntD H d2 k2 t2 ∧ (∀ r ∈ k1, 0 < r ∧ r.natAbs < 2 ^ R) ∧ (∀ r ∈ k2, 0 < r ∧ r.natAbs < 2 ^ R) ∧
  (∀ r, (t1 r).natAbs < 2 ^ A) ∧ (∀ r, (t2 r).natAbs < 2 ^ B) ∧ 0 < A ∧ 0 < B ∧ A + B ≤ 80000 ∧ 0 < R ∧ R ≤ 5000 ∧ k1.length * k2.length ≤ 900 ∧
  ∀ d ks H', Same H H' → H d = none → IntD H' d ks (prodI k1 k2 t1 t2) → ks.length ≤ k1.length * k2.length → (∀ u ∈ ks, ∃ r ∈ k1, ∃ s ∈ k2, u = mulR r s) → Q (.ref d) H'
end
end TC
namespace TC
open PySem PySem.Spec PyProof.Rows L2 TCA
/-! ### products of numbers, as fractions -/
def sumQ : List Rat → Rat
  | [] => 0
  | a :: l => a + sumQ l
/-- the product at a root, by the roots of both -/
def prodG (k1 k2 : List Int) (g1 g2 : Int → Rat) (u : Int) : Rat := sumQ (k1.map fun r => sumQ (k2.map fun s => if mulR r s = u then g1 r * g2 s * ((gR r s : Int) : Rat) else 0))
/-- the tops over one bottom D -/
def topsG (g : Int → Rat) (D : Nat) (r : Int) : Int := (g r).num * ((D / (g r).den : Nat) : Int)
theorem topsG_div {g : Int → Rat} {c : Nat} (hc : 0 < c) (r : Int) (h : (g r).den ∣ c) : Rat.divInt (topsG g c r) (c : Int) = g r := by
  have dp := (g r).den_pos
  have d0 : ((g r).den : Int) ≠ 0 := by omega
  have c0 : ((c : Nat) : Int) ≠ 0 := by omega
  have e : Rat.divInt (topsG g c r) (c : Int) = Rat.divInt (g r).num ((g r).den : Int) := by
    rw [Rat.divInt_eq_divInt_iff c0 d0]
    unfold topsG
    rw [Int.mul_assoc]
    congr 1
    rw [← Int.natCast_mul, Nat.div_mul_cancel h]
  rw [e, Rat.num_divInt_den]
theorem divInt_add {d : Int} (hd : d ≠ 0) (a b : Int) : Rat.divInt (a + b) d = Rat.divInt a d + Rat.divInt b d := by
  rw [Rat.divInt_add_divInt a b hd hd, Rat.divInt_eq_divInt_iff hd (Int.mul_ne_zero hd hd), ← Int.add_mul, Int.mul_assoc]
theorem sum_div {α : Type} {d : Int} (hd : d ≠ 0) {f : α → Int} {g : α → Rat} : ∀ {l : List α}, (∀ a ∈ l, Rat.divInt (f a) d = g a) → Rat.divInt (sumI (l.map f)) d = sumQ (l.map g)
  | [], _ => Rat.zero_divInt d
  | a :: l, h => by
    show Rat.divInt (f a + sumI (l.map f)) d = g a + sumQ (l.map g)
    rw [divInt_add hd, h a (List.mem_cons_self ..), sum_div hd fun b hb => h b (List.mem_cons_of_mem _ hb)]
theorem divInt_of_one (g : Int) : Rat.divInt g 1 = (g : Rat) := by
  rw [Rat.divInt_eq_div]
  grind
theorem term_div (a b g c1 c2 : Int) : Rat.divInt (a * b * g) (c1 * c2) = Rat.divInt a c1 * Rat.divInt b c2 * (g : Rat) := by
  rw [← divInt_of_one g, Rat.divInt_mul_divInt, Rat.divInt_mul_divInt, Int.mul_one]
theorem row_divG {k2 : List Int} {g1 g2 : Int → Rat} {c1 c2 : Nat} (h1 : 0 < c1) (h2 : 0 < c2) (d1 : ∀ r, (g1 r).den ∣ c1) (d2 : ∀ r, (g2 r).den ∣ c2) (r u : Int) :
    Rat.divInt (rowI r (topsG g1 c1 r) k2 (topsG g2 c2) u) ((c1 : Int) * (c2 : Int)) = sumQ (k2.map fun s => if mulR r s = u then g1 r * g2 s * ((gR r s : Int) : Rat) else 0) := by
  have c0 : (c1 : Int) * (c2 : Int) ≠ 0 := Int.mul_ne_zero (by omega) (by omega)
  unfold rowI
  refine sum_div c0 fun s hs => ?_
  by_cases e : mulR r s = u
  · rw [if_pos e, if_pos e, term_div, topsG_div h1 r (d1 r), topsG_div h2 s (d2 s)]
  · rw [if_neg e, if_neg e, Rat.zero_divInt]
theorem prod_divG {k1 k2 : List Int} {g1 g2 : Int → Rat} {c1 c2 : Nat} (h1 : 0 < c1) (h2 : 0 < c2) (d1 : ∀ r, (g1 r).den ∣ c1) (d2 : ∀ r, (g2 r).den ∣ c2) (u : Int) :
    Rat.divInt (prodI k1 k2 (topsG g1 c1) (topsG g2 c2) u) ((c1 : Int) * (c2 : Int)) = prodG k1 k2 g1 g2 u := by
  have c0 : (c1 : Int) * (c2 : Int) ≠ 0 := Int.mul_ne_zero (by omega) (by omega)
  unfold prodI prodG
  exact sum_div c0 fun r hr => row_divG h1 h2 d1 d2 r u
theorem den_divInt {t : Int} {c : Nat} (hc : 0 < c) : (Rat.divInt t (c : Int)).den ∣ c := by
  have e2 := congrArg Prod.snd (TCR.low_rat t (c : Int) (by omega))
  have es : TCM.sgn t (c : Int) = ((Int.gcd t (c : Int) : Nat) : Int) := if_neg (by omega)
  have e3 : (c : Int).fdiv ((Int.gcd t (c : Int) : Nat) : Int) = ((Rat.divInt t (c : Int)).den : Int) := by
    rw [← es]
    exact e2
  rw [fdiv_nat] at e3
  have e4 : c / Int.gcd t (c : Int) = (Rat.divInt t (c : Int)).den := Int.ofNat.inj e3
  rw [← e4]
  exact Nat.div_dvd_of_dvd (by
    have := Int.gcd_dvd_natAbs_right t (c : Int)
    rwa [Int.natAbs_natCast] at this)
theorem sumI_le {α : Type} {K : Nat} {f : α → Int} : ∀ {l : List α}, (∀ a ∈ l, (f a).natAbs ≤ K) → (sumI (l.map f)).natAbs ≤ l.length * K
  | [], _ => Nat.zero_le _
  | a :: l, h => by
    have e1 := h a (List.mem_cons_self ..)
    have e2 := sumI_le (f := f) fun b hb => h b (List.mem_cons_of_mem _ hb)
    show (f a + sumI (l.map f)).natAbs ≤ (l.length + 1) * K
    rw [Nat.succ_mul]
    omega
theorem prodI_le {k1 k2 : List Int} {t1 t2 : Int → Int} {K : Nat} (h : ∀ r ∈ k1, ∀ s ∈ k2, (t1 r * t2 s * gR r s).natAbs ≤ K) (u : Int) : (prodI k1 k2 t1 t2 u).natAbs ≤ k1.length * k2.length * K := by
  rw [Nat.mul_assoc]
  refine sumI_le fun r hr => sumI_le fun s hs => ?_
  split
  · exact h r hr s hs
  · exact Nat.zero_le _
theorem tops_lt {L : List Part} {c A B : Nat} (hc : c < 2 ^ B) (zA : ∀ r, (TCR.val L r).num.natAbs < 2 ^ A) (r : Int) : (topsOf L c r).natAbs < 2 ^ (A + B) := wide_lt (zA r) (by rw [Int.natAbs_natCast]; exact Nat.lt_of_le_of_lt (Nat.div_le_self ..) hc)
/-- how large a number's parts are: bottoms that divide D, tops and roots below a power of 2 -/
structure Fit (D A R : Nat) (L : List Part) : Prop where
  can : TCR.Canon L
  den : ∀ x ∈ L, x.2.den ∣ D
  num : ∀ x ∈ L, x.2.num.natAbs < 2 ^ A
  pos : ∀ x ∈ L, 0 < x.1 ∧ x.1.natAbs < 2 ^ R
theorem Fit.val {D A R : Nat} {L : List Part} (h : Fit D A R L) (r : Int) : (TCR.val L r).num.natAbs < 2 ^ A := by
  rcases Classical.em (∃ q, (r, q) ∈ L) with ⟨q, z⟩ | z
  · rw [h.can.mem z]
    exact h.num _ z
  · rw [TCR.val_not fun x hx e => z ⟨x.2, by rw [← e]; exact hx⟩]
    exact Nat.pow_pos (by decide)
section
variable {P : Program} {w : World} {K : PySem.W.Frag} {mg : Str → Option Value} {base : Heap} {f : Addr} {fd : FuncData} {C fI fQ : Addr}
/-! ### times -/
def spTimes (C : Addr) : Sp := fun vs H Q _ => ∃ (x y : Addr) (L M : List Part) (D1 D2 A1 A2 B1 B2 R : Nat), vs = [.ref x, .ref y] ∧ NumAt C H x L ∧ NumAt C H y M ∧ Fit D1 A1 R L ∧ Fit D2 A2 R M ∧ 0 < D1 ∧ 0 < D2 ∧ D1 < 2 ^ B1 ∧ D2 < 2 ^ B2 ∧ 0 < A1 ∧ 0 < A2 ∧ 0 < B1 ∧ 0 < B2 ∧ B1 + B2 ≤ 8000 ∧ A1 + A2 ≤ 20000 ∧ 0 < R ∧ R ≤ 5000 ∧
  L.length ≤ 60 ∧ M.length ≤ 60 ∧ L.length * M.length ≤ 900 ∧
  ∀ z N H', Same H H' → H z = none → NumAt C H' z N → Fit (D1 * D2) (A1 + B1 + (A2 + B2) + R + 10) (R + R) N → (∀ u, TCR.val N u = prodG (L.map (·.1)) (M.map (·.1)) (TCR.val L) (TCR.val M) u) → N.length ≤ L.length * M.length → Q (.ref z) H'
theorem fdiv_pos {z g : Int} (hz : 0 < z) (hg : 0 < g) (h : g ∣ z) : 0 < z.fdiv g := by
  obtain ⟨k, rfl⟩ := h
  rw [Int.mul_fdiv_cancel_left _ (by omega)]
  rcases Int.lt_trichotomy 0 k with h | h | h
  · exact h
  · rw [← h] at hz
    omega
  · have := Int.mul_neg_of_pos_of_neg hg h
    omega
theorem mulR_pos {r s : Int} {R : Nat} (hr : 0 < r) (hs : 0 < s) (zr : r.natAbs < 2 ^ R) (zs : s.natAbs < 2 ^ R) : 0 < mulR r s ∧ (mulR r s).natAbs < 2 ^ (R + R) := by
  have gp : 0 < Int.gcd r s := Int.gcd_pos_iff.mpr (.inl (by omega))
  have gp' : 0 < gR r s := by
    unfold gR
    omega
  have fB : ∀ z : Int, 0 < z → z.natAbs < 2 ^ R → (z.fdiv (gR r s)).natAbs < 2 ^ R := fun z hz hzR => by
    have e : z = ((z.natAbs : Nat) : Int) := by omega
    rw [e]
    unfold gR
    rw [fdiv_nat, Int.natAbs_natCast]
    exact Nat.lt_of_le_of_lt (Nat.div_le_self ..) hzR
  exact ⟨Int.mul_pos (fdiv_pos hr gp' (Int.gcd_dvd_left ..)) (fdiv_pos hs gp' (Int.gcd_dvd_right ..)), wide_lt (fB r hr zr) (fB s hs zs)⟩
end
end TC
namespace TC
/-! ### facts of the product, as fractions -/
theorem sumQ_zero {α : Type} {f : α → Rat} : ∀ {l : List α}, (∀ a ∈ l, f a = 0) → sumQ (l.map f) = 0
  | [], _ => rfl
  | a :: l, h => by
    show f a + sumQ (l.map f) = 0
    rw [h a (List.mem_cons_self ..), sumQ_zero fun b hb => h b (List.mem_cons_of_mem _ hb)]
    grind
theorem sumQ_add {α : Type} (f g : α → Rat) : ∀ l : List α, sumQ (l.map fun a => f a + g a) = sumQ (l.map f) + sumQ (l.map g)
  | [] => by show (0 : Rat) = 0 + 0; grind
  | a :: l => by
    show f a + g a + sumQ (l.map fun a => f a + g a) = f a + sumQ (l.map f) + (g a + sumQ (l.map g))
    rw [sumQ_add f g l]
    grind
theorem sumQ_mul {α : Type} (c : Rat) (f : α → Rat) : ∀ l : List α, sumQ (l.map fun a => c * f a) = c * sumQ (l.map f)
  | [] => by show (0 : Rat) = c * 0; grind
  | a :: l => by
    show c * f a + sumQ (l.map fun a => c * f a) = c * (f a + sumQ (l.map f))
    rw [sumQ_mul c f l]
    grind
theorem sumQ_congr {α : Type} {f g : α → Rat} {l : List α} (h : ∀ a ∈ l, f a = g a) : sumQ (l.map f) = sumQ (l.map g) := by
  rw [List.map_congr_left h]
theorem sumQ_swap {α β : Type} (f : α → β → Rat) (m : List β) : ∀ l : List α, sumQ (l.map fun a => sumQ (m.map fun b => f a b)) = sumQ (m.map fun b => sumQ (l.map fun a => f a b))
  | [] => (sumQ_zero fun b _ => rfl).symm
  | a :: l => by
    show sumQ (m.map fun b => f a b) + sumQ (l.map fun a => sumQ (m.map fun b => f a b)) = sumQ (m.map fun b => f a b + sumQ (l.map fun a => f a b))
    rw [sumQ_add (fun b => f a b) (fun b => sumQ (l.map fun a => f a b)) m, sumQ_swap f m l]
theorem sumQ_perm {l m : List Rat} (h : l.Perm m) : sumQ l = sumQ m := by
  induction h with
  | nil => rfl
  | cons a _ ih =>
    show a + _ = a + _
    rw [ih]
  | swap a b l =>
    show b + (a + sumQ l) = a + (b + sumQ l)
    grind
  | trans _ _ h1 h2 => exact h1.trans h2
theorem sumQ_filter {f : Int → Rat} : ∀ l : List Int, sumQ (l.map f) = sumQ ((l.filter fun r => decide (f r ≠ 0)).map f)
  | [] => rfl
  | a :: l => by
    rw [List.filter_cons]
    by_cases h : f a = 0
    · rw [if_neg (by simp [h])]
      show f a + sumQ (l.map f) = _
      rw [h, sumQ_filter l]
      grind
    · rw [if_pos (by simp [h])]
      show f a + sumQ (l.map f) = f a + sumQ ((l.filter fun r => decide (f r ≠ 0)).map f)
      rw [sumQ_filter l]
theorem sum_supp {k k' : List Int} {f : Int → Rat} (nd : k.Nodup) (nd' : k'.Nodup) (h : ∀ r, f r ≠ 0 → r ∈ k) (h' : ∀ r, f r ≠ 0 → r ∈ k') : sumQ (k.map f) = sumQ (k'.map f) := by
  rw [sumQ_filter k, sumQ_filter k']
  refine sumQ_perm (List.Perm.map f ((List.perm_ext_iff_of_nodup (nd.filter _) (nd'.filter _)).mpr fun r => ?_))
  rw [List.mem_filter, List.mem_filter]
  refine ⟨fun z => ⟨h' r (of_decide_eq_true z.2), z.2⟩, fun z => ⟨h r (of_decide_eq_true z.2), z.2⟩⟩
theorem sum_pick {k : List Int} {f : Int → Rat} (nd : k.Nodup) (u : Int) (h : f u ≠ 0 → u ∈ k) : sumQ (k.map fun r => if r = u then f r else 0) = f u := by
  have z := sum_supp (k' := [u]) (f := fun r => if r = u then f r else 0) nd (by simp) (fun r hr => ?_) (fun r hr => ?_)
  · rw [z]
    show (if u = u then f u else 0) + 0 = f u
    rw [if_pos rfl]
    grind
  · by_cases e : r = u
    · rw [e]
      refine h fun z => hr ?_
      rw [e, if_pos rfl]
      exact z
    · exact absurd (if_neg e) hr
  · by_cases e : r = u
    · exact List.mem_singleton.mpr e
    · exact absurd (if_neg e) hr
/-- where a function's support lies -/
def Cov (g : Int → Rat) (k : List Int) : Prop := k.Nodup ∧ ∀ r, g r ≠ 0 → r ∈ k
theorem prodG_supp {k1 k1' k2 k2' : List Int} {g1 g2 : Int → Rat} (h1 : Cov g1 k1) (h1' : Cov g1 k1') (h2 : Cov g2 k2) (h2' : Cov g2 k2') (u : Int) : prodG k1 k2 g1 g2 u = prodG k1' k2' g1 g2 u := by
  have inner : ∀ r, sumQ (k2.map fun s => if mulR r s = u then g1 r * g2 s * ((gR r s : Int) : Rat) else 0) = sumQ (k2'.map fun s => if mulR r s = u then g1 r * g2 s * ((gR r s : Int) : Rat) else 0) := fun r => by
    have nz : ∀ s, (if mulR r s = u then g1 r * g2 s * ((gR r s : Int) : Rat) else 0) ≠ 0 → g2 s ≠ 0 := fun s hs e => hs (by
      split
      · rw [e]
        grind
      · rfl)
    exact sum_supp h2.1 h2'.1 (fun s hs => h2.2 s (nz s hs)) fun s hs => h2'.2 s (nz s hs)
  unfold prodG
  rw [sumQ_congr fun r _ => inner r]
  have nz : ∀ r, sumQ (k2'.map fun s => if mulR r s = u then g1 r * g2 s * ((gR r s : Int) : Rat) else 0) ≠ 0 → g1 r ≠ 0 := fun r hr e => hr (sumQ_zero fun s _ => by
    split
    · rw [e]
      grind
    · rfl)
  exact sum_supp h1.1 h1'.1 (fun r hr => h1.2 r (nz r hr)) fun r hr => h1'.2 r (nz r hr)
theorem gR_comm (r s : Int) : gR r s = gR s r := by
  unfold gR
  rw [Int.gcd_comm]
theorem mulR_comm (r s : Int) : mulR r s = mulR s r := by
  unfold mulR
  rw [gR_comm r s, Int.mul_comm]
theorem prodG_comm (k1 k2 : List Int) (g1 g2 : Int → Rat) (u : Int) : prodG k1 k2 g1 g2 u = prodG k2 k1 g2 g1 u := by
  unfold prodG
  rw [sumQ_swap]
  refine sumQ_congr fun s _ => sumQ_congr fun r _ => ?_
  rw [mulR_comm r s, gR_comm r s, Rat.mul_comm (g1 r) (g2 s)]
theorem prodG_add (k1 k2 : List Int) (g1 g2 h2 : Int → Rat) (u : Int) : prodG k1 k2 g1 (fun s => g2 s + h2 s) u = prodG k1 k2 g1 g2 u + prodG k1 k2 g1 h2 u := by
  unfold prodG
  rw [← sumQ_add]
  refine sumQ_congr fun r _ => ?_
  rw [← sumQ_add]
  refine sumQ_congr fun s _ => ?_
  split <;> grind
theorem prodG_zero (k1 k2 : List Int) (g1 g2 : Int → Rat) (u : Int) (h : ∀ s, g2 s = 0) : prodG k1 k2 g1 g2 u = 0 := by
  refine sumQ_zero fun r _ => sumQ_zero fun s _ => ?_
  rw [h s]
  split <;> grind
theorem mulR_one {r : Int} (h : 0 < r) : mulR r 1 = r ∧ gR r 1 = 1 := by
  have e : gR r 1 = 1 := by
    unfold gR
    rw [Int.gcd_one_right]
    rfl
  refine ⟨?_, e⟩
  unfold mulR
  rw [e, Int.fdiv_one, Int.fdiv_one, Int.mul_one]
/-- times a fraction -/
theorem prodG_one {k : List Int} {g : Int → Rat} (c : Rat) (hk : Cov g k) (pos : ∀ r ∈ k, 0 < r) (u : Int) : prodG k [1] g (fun s => if s = 1 then c else 0) u = c * g u := by
  have z : prodG k [1] g (fun s => if s = 1 then c else 0) u = sumQ (k.map fun r => if r = u then c * g r else 0) := by
    refine sumQ_congr fun r hr => ?_
    obtain ⟨e1, e2⟩ := mulR_one (pos r hr)
    show (if mulR r 1 = u then g r * (if (1 : Int) = 1 then c else 0) * ((gR r 1 : Int) : Rat) else 0) + 0 = _
    rw [e1, e2, if_pos rfl]
    split <;> grind
  rw [z]
  exact sum_pick (f := fun r => c * g r) hk.1 u fun h => hk.2 u fun e => h (by
    show c * g u = 0
    rw [e]
    grind)
/-- a number by its twin has no root left that p divides -/
theorem prodG_twin {k : List Int} {g : Int → Rat} {p u : Int} (ep : ∀ r ∈ k, ∀ s ∈ k, mulR r s = u → ((r % p = 0) ↔ ¬ (s % p = 0))) : prodG k k g (fun s => g s * (if s % p = 0 then -1 else 1)) u = 0 := by
  have e1 := prodG_comm k k g (fun s => g s * (if s % p = 0 then -1 else 1)) u
  have e2 : prodG k k g (fun s => g s * (if s % p = 0 then -1 else 1)) u + prodG k k (fun s => g s * (if s % p = 0 then -1 else 1)) g u = 0 := by
    unfold prodG
    rw [← sumQ_add]
    refine sumQ_zero fun r hr => ?_
    show sumQ _ + sumQ _ = 0
    rw [← sumQ_add]
    refine sumQ_zero fun s hs => ?_
    show (if mulR r s = u then _ else (0 : Rat)) + (if mulR r s = u then _ else 0) = 0
    by_cases e : mulR r s = u
    · rw [if_pos e, if_pos e]
      show g r * (g s * (if s % p = 0 then (-1 : Rat) else 1)) * ((gR r s : Int) : Rat) + g r * (if r % p = 0 then (-1 : Rat) else 1) * g s * ((gR r s : Int) : Rat) = 0
      have := ep r hr s hs e
      by_cases a : r % p = 0
      · rw [if_pos a, if_neg (this.mp a)]
        grind
      · have b : s % p = 0 := Classical.byContradiction fun z => a (this.mpr z)
        rw [if_neg a, if_pos b]
        grind
    · rw [if_neg e, if_neg e]
      grind
  grind
end TC
/-! roots of factorials: a square times a number free of squares, in one way only. -/
namespace TCX
/-- free of squares -/
def SqF (r : Nat) : Prop := ∀ d : Nat, d * d ∣ r → d = 1
theorem SqF.dvd {r s : Nat} (h : SqF r) (e : s ∣ r) : SqF s := fun d hd => h d (Nat.dvd_trans hd e)
theorem SqF.pos {r : Nat} (h : SqF r) : 0 < r := by
  refine Nat.pos_of_ne_zero fun e => ?_
  have := h 0 (by rw [e]; exact Nat.dvd_refl 0)
  cases this
/-- for coprime x, y: x x r = y y f with both free of squares makes x = y = 1 -/
theorem sq_cop {x y r f : Nat} (c : Nat.Coprime x y) (hr : SqF r) (hf : SqF f) (e : x * x * r = y * y * f) : x = 1 ∧ y = 1 := by
  have c2 : Nat.Coprime (x * x) (y * y) := Nat.Coprime.mul_left (Nat.Coprime.mul_right c c) (Nat.Coprime.mul_right c c)
  refine ⟨hf x ?_, hr y ?_⟩
  · exact Nat.Coprime.dvd_of_dvd_mul_left c2 (by rw [← e]; exact Nat.dvd_mul_right _ _)
  · exact Nat.Coprime.dvd_of_dvd_mul_left c2.symm (by rw [e]; exact Nat.dvd_mul_right _ _)
theorem sq_uniq {x y r f : Nat} (hx : 0 < x) (hr : SqF r) (hf : SqF f) (e : x * x * r = y * y * f) : x = y ∧ r = f := by
  have g0 : 0 < Nat.gcd x y := Nat.gcd_pos_of_pos_left _ hx
  obtain ⟨a, ha⟩ := Nat.gcd_dvd_left x y
  obtain ⟨b, hb⟩ := Nat.gcd_dvd_right x y
  have cop : Nat.Coprime a b := by
    have z := Nat.gcd_mul_left (Nat.gcd x y) a b
    rw [← ha, ← hb] at z
    have z2 : Nat.gcd x y * 1 = Nat.gcd x y * Nat.gcd a b := by rw [Nat.mul_one]; exact z
    exact (Nat.eq_of_mul_eq_mul_left g0 z2).symm
  have e2 : a * a * r = b * b * f := by
    have h1 : x * x * r = (Nat.gcd x y * Nat.gcd x y) * (a * a * r) := by
      conv => lhs; rw [ha]
      simp only [Nat.mul_assoc, Nat.mul_left_comm, Nat.mul_comm]
    have h2 : y * y * f = (Nat.gcd x y * Nat.gcd x y) * (b * b * f) := by
      conv => lhs; rw [hb]
      simp only [Nat.mul_assoc, Nat.mul_left_comm, Nat.mul_comm]
    rw [h1, h2] at e
    exact Nat.eq_of_mul_eq_mul_left (Nat.mul_pos g0 g0) e
  obtain ⟨ea, eb⟩ := sq_cop cop hr hf e2
  subst ea eb
  refine ⟨?_, by simpa using e2⟩
  rw [ha]
  conv => rhs; rw [hb]
/-! ### primes -/
def IsP (p : Nat) : Prop := 1 < p ∧ ∀ d, d ∣ p → d = 1 ∨ d = p
def pr30 : List Nat := [2, 3, 5, 7, 11, 13, 17, 19, 23, 29, 31, 37, 41, 43, 47, 53, 59, 61, 67, 71, 73, 79, 83, 89, 97, 101, 103, 107, 109, 113]
theorem pr30_b : ∀ p ∈ pr30, 1 < p ∧ ∀ d, d < p + 1 → d ∣ p → d = 1 ∨ d = p := by decide +kernel
theorem pr30_p : ∀ p ∈ pr30, IsP p := fun p hp => by
  obtain ⟨h1, h2⟩ := pr30_b p hp
  exact ⟨h1, fun d hd => h2 d (Nat.lt_succ_of_le (Nat.le_of_dvd (by omega) hd)) hd⟩
theorem pr30_nd : pr30.Nodup := by decide +kernel
theorem IsP.cop {p d : Nat} (h : IsP p) (hd : ¬ p ∣ d) : Nat.Coprime p d := by
  rcases h.2 _ (Nat.gcd_dvd_left p d) with e | e
  · exact e
  · exact absurd (e ▸ Nat.gcd_dvd_right p d) hd
theorem SqF.one : SqF 1 := fun d hd => by
  have := Nat.eq_one_of_dvd_one hd
  exact Nat.eq_one_of_mul_eq_one_left this
theorem SqF.mul {p m : Nat} (hp : IsP p) (hm : SqF m) (hn : ¬ p ∣ m) : SqF (p * m) := fun d hd => by
  by_cases h : p ∣ d
  · obtain ⟨k, rfl⟩ := h
    refine absurd ?_ hn
    have z : p * (p * (k * k)) ∣ p * m := by
      have e : p * k * (p * k) = p * (p * (k * k)) := by
        simp only [Nat.mul_assoc, Nat.mul_left_comm, Nat.mul_comm]
      rw [e] at hd
      exact hd
    have z2 := Nat.dvd_of_mul_dvd_mul_left (by have := hp.1; omega) z
    exact Nat.dvd_trans (Nat.dvd_mul_right _ _) z2
  · have c := hp.cop h
    have c2 : Nat.Coprime (d * d) p := (Nat.Coprime.mul_right c c).symm
    exact hm d (Nat.Coprime.dvd_of_dvd_mul_left c2 hd)
theorem IsP.dvd_mul {p a b : Nat} (h : IsP p) (hd : p ∣ a * b) : p ∣ a ∨ p ∣ b := by
  by_cases z : p ∣ a
  · exact .inl z
  · exact .inr (Nat.Coprime.dvd_of_dvd_mul_left (h.cop z) hd)
/-- the product of those of a list that are asked for -/
def pickP (f : Nat → Bool) (l : List Nat) : Nat := l.foldr (fun p m => if f p then p * m else m) 1
theorem pick_not {f : Nat → Bool} {q : Nat} (hq : IsP q) : ∀ {l : List Nat}, (∀ p ∈ l, IsP p) → q ∉ l → ¬ q ∣ pickP f l
  | [], _, _ => fun h => by
    have := Nat.eq_one_of_dvd_one h
    have := hq.1
    omega
  | p :: l, hp, hn => fun h => by
    have ih := pick_not (f := f) hq (fun r hr => hp r (List.mem_cons_of_mem _ hr)) (fun z => hn (List.mem_cons_of_mem _ z))
    have e : pickP f (p :: l) = if f p then p * pickP f l else pickP f l := rfl
    rw [e] at h
    split at h
    · rcases hq.dvd_mul h with h | h
      · rcases (hp p (by simp)).2 q h with e | e
        · have := hq.1
          omega
        · exact hn (by rw [e]; simp)
      · exact ih h
    · exact ih h
theorem pick_sqF {f : Nat → Bool} : ∀ {l : List Nat}, (∀ p ∈ l, IsP p) → l.Nodup → SqF (pickP f l)
  | [], _, _ => SqF.one
  | p :: l, hp, nd => by
    have n := List.nodup_cons.mp nd
    have hl : ∀ r ∈ l, IsP r := fun r hr => hp r (List.mem_cons_of_mem _ hr)
    have ih := pick_sqF (f := f) hl n.2
    have e : pickP f (p :: l) = if f p then p * pickP f l else pickP f l := rfl
    rw [e]
    split
    · exact SqF.mul (hp p (by simp)) ih (pick_not (hp p (by simp)) hl n.1)
    · exact ih
/-! ### factorials -/
def factN : Nat → Nat
  | 0 => 1
  | n + 1 => (n + 1) * factN n
/-- how often p is in n!, by the powers of p to 122 -/
def legN (n p : Nat) : Nat := n / p + n / (p * p) + n / (p * p * p) + n / (p * p * p * p) + n / (p * p * p * p * p) + n / (p * p * p * p * p * p)
def powP (e : Nat → Nat) (l : List Nat) : Nat := l.foldr (fun p m => p ^ e p * m) 1
theorem fact_leg : ∀ n, n < 123 → factN n = powP (legN n) pr30 := by decide +kernel
theorem powP_mul (e f : Nat → Nat) : ∀ l : List Nat, powP e l * powP f l = powP (fun p => e p + f p) l
  | [] => rfl
  | p :: l => by
    show p ^ e p * powP e l * (p ^ f p * powP f l) = p ^ (e p + f p) * powP (fun p => e p + f p) l
    rw [← powP_mul e f l, Nat.pow_add]
    simp only [Nat.mul_assoc, Nat.mul_left_comm, Nat.mul_comm]
theorem powP_congr {e f : Nat → Nat} : ∀ {l : List Nat}, (∀ p ∈ l, e p = f p) → powP e l = powP f l
  | [], _ => rfl
  | p :: l, h => by
    show p ^ e p * powP e l = p ^ f p * powP f l
    rw [h p (by simp), powP_congr fun r hr => h r (List.mem_cons_of_mem _ hr)]
theorem powP_pos {e : Nat → Nat} : ∀ {l : List Nat}, (∀ p ∈ l, IsP p) → 0 < powP e l
  | [], _ => Nat.one_pos
  | p :: l, h => by
    have h1 := (h p (by simp)).1
    exact Nat.mul_pos (Nat.pow_pos (by omega)) (powP_pos fun r hr => h r (List.mem_cons_of_mem _ hr))
theorem pick_pow (f : Nat → Bool) : ∀ l : List Nat, pickP f l = powP (fun p => if f p then 1 else 0) l
  | [] => rfl
  | p :: l => by
    have e : pickP f (p :: l) = if f p then p * pickP f l else pickP f l := rfl
    rw [e, pick_pow f l]
    show _ = p ^ (if f p then 1 else 0) * powP (fun p => if f p then 1 else 0) l
    split
    · rw [Nat.pow_one]
    · rw [Nat.pow_zero, Nat.one_mul]
/-- the factorials of a list, multiplied -/
def prodF (l : List Nat) : Nat := l.foldr (fun n m => factN n * m) 1
def sumL (l : List Nat) (p : Nat) : Nat := l.foldr (fun n m => legN n p + m) 0
theorem powP_zero : ∀ l : List Nat, powP (fun _ => 0) l = 1
  | [] => rfl
  | p :: l => by
    show p ^ 0 * powP (fun _ => 0) l = 1
    rw [powP_zero l]
    rfl
theorem prodF_leg : ∀ {l : List Nat}, (∀ n ∈ l, n < 123) → prodF l = powP (sumL l) pr30
  | [], _ => (powP_zero pr30).symm
  | n :: l, h => by
    show factN n * prodF l = _
    rw [fact_leg n (h n (by simp)), prodF_leg fun m hm => h m (List.mem_cons_of_mem _ hm), powP_mul]
    rfl
/-- the power of p in the quotient of two products of factorials -/
def expE (above below : List Nat) (p : Nat) : Int := (sumL above p : Int) - (sumL below p : Int)
def topE (above below : List Nat) : Nat := powP (fun p => (expE above below p / 2).toNat) pr30
def botE (above below : List Nat) : Nat := powP (fun p => (-(expE above below p / 2)).toNat) pr30
def rootE (above below : List Nat) : Nat := pickP (fun p => decide (expE above below p % 2 = 1)) pr30
theorem rootE_sqF (above below : List Nat) : SqF (rootE above below) := pick_sqF pr30_p pr30_nd
theorem topE_pos (above below : List Nat) : 0 < topE above below := powP_pos pr30_p
theorem botE_pos (above below : List Nat) : 0 < botE above below := powP_pos pr30_p
/-- (top / bottom) squared times the root is the quotient -/
theorem rootE_ok {above below : List Nat} (ha : ∀ n ∈ above, n < 123) (hb : ∀ n ∈ below, n < 123) :
    topE above below * topE above below * rootE above below * prodF below = botE above below * botE above below * prodF above := by
  unfold topE botE rootE
  rw [pick_pow, prodF_leg ha, prodF_leg hb]
  simp only [powP_mul]
  refine powP_congr fun p _ => ?_
  have e : expE above below p = (sumL above p : Int) - (sumL below p : Int) := rfl
  generalize sumL above p = A at e ⊢
  generalize sumL below p = B at e ⊢
  generalize expE above below p = x at e ⊢
  by_cases h : x % 2 = 1
  · rw [decide_eq_true h]
    simp only [if_true]
    omega
  · rw [decide_eq_false h]
    show _ + _ + 0 + _ = _
    omega
/-- powers of different primes have no divisor in common -/
theorem cop_pow {q : Nat} (hq : IsP q) {e : Nat → Nat} : ∀ {l : List Nat}, (∀ p ∈ l, IsP p) → q ∉ l → Nat.Coprime q (powP e l)
  | [], _, _ => Nat.coprime_one_right q
  | p :: l, hp, hn => by
    have ih := cop_pow hq (e := e) (fun r hr => hp r (List.mem_cons_of_mem _ hr)) (fun z => hn (List.mem_cons_of_mem _ z))
    have c : Nat.Coprime q p := hq.cop fun z => by
      rcases (hp p (by simp)).2 q z with e | e
      · have := hq.1
        omega
      · exact hn (by rw [e]; simp)
    exact Nat.Coprime.mul_right (Nat.Coprime.pow_right _ c) ih
theorem powP_cop {e f : Nat → Nat} : ∀ {l : List Nat}, (∀ p ∈ l, IsP p) → l.Nodup → (∀ p ∈ l, e p = 0 ∨ f p = 0) → Nat.Coprime (powP e l) (powP f l)
  | [], _, _, _ => Nat.coprime_one_right 1
  | p :: l, hp, nd, h => by
    have n := List.nodup_cons.mp nd
    have hl : ∀ r ∈ l, IsP r := fun r hr => hp r (List.mem_cons_of_mem _ hr)
    have ih := powP_cop hl n.2 fun r hr => h r (List.mem_cons_of_mem _ hr)
    have hpp := hp p (by simp)
    show Nat.Coprime (p ^ e p * powP e l) (p ^ f p * powP f l)
    rcases h p (by simp) with z | z
    · rw [z, Nat.pow_zero, Nat.one_mul]
      exact Nat.Coprime.mul_right (Nat.Coprime.pow_right _ (cop_pow hpp hl n.1).symm) ih
    · rw [z, Nat.pow_zero, Nat.one_mul]
      exact Nat.Coprime.mul_left (Nat.Coprime.pow_left _ (cop_pow hpp hl n.1)) ih
theorem topE_cop (above below : List Nat) : Nat.Coprime (topE above below) (botE above below) := powP_cop pr30_p pr30_nd fun p _ => by omega
end TCX
/-! the powers of primes by counts. -/
namespace TCX
/-- how many of l are at least m -/
def geL (l : List Nat) (m : Nat) : Int := l.foldr (fun n k => (if m ≤ n then 1 else 0) + k) 0
/-- how many of l are m -/
def eqL (l : List Nat) (m : Nat) : Int := l.foldr (fun n k => (if n = m then 1 else 0) + k) 0
theorem ge_step (l : List Nat) (m : Nat) : geL l m = eqL l m + geL l (m + 1) := by
  induction l with
  | nil => rfl
  | cons n l ih =>
    show (if m ≤ n then 1 else 0) + geL l m = (if n = m then 1 else 0) + eqL l m + ((if m + 1 ≤ n then 1 else 0) + geL l (m + 1))
    rw [ih]
    split <;> split <;> split <;> omega
theorem ge_top {l : List Nat} {h m : Nat} (hl : ∀ n ∈ l, n ≤ h) (hm : h < m) : geL l m = 0 := by
  induction l with
  | nil => rfl
  | cons n l ih =>
    show (if m ≤ n then 1 else 0) + geL l m = 0
    rw [ih fun r hr => hl r (List.mem_cons_of_mem _ hr), if_neg (by have := hl n (by simp); omega)]
    rfl
/-- the quotients by s, summed -/
def divS (l : List Nat) (s : Nat) : Int := l.foldr (fun n k => ((n / s : Nat) : Int) + k) 0
theorem one_mult (n s : Nat) (s0 : 0 < s) : ∀ J : Nat, ((List.range J).map fun j => if (j + 1) * s ≤ n then (1 : Int) else 0).sum = ((min J (n / s) : Nat) : Int)
  | 0 => by simp
  | J + 1 => by
    rw [List.range_succ, List.map_append, List.sum_append, one_mult n s s0 J]
    show _ + ((if (J + 1) * s ≤ n then (1 : Int) else 0) + 0) = _
    have e : (J + 1) * s ≤ n ↔ J + 1 ≤ n / s := (Nat.le_div_iff_mul_le s0).symm
    by_cases h : (J + 1) * s ≤ n
    · have h2 := e.mp h
      rw [if_pos h]
      omega
    · have h2 : ¬ J + 1 ≤ n / s := fun z => h (e.mpr z)
      rw [if_neg h]
      omega
theorem sum_add (f g : Nat → Int) : ∀ l : List Nat, (l.map fun j => f j + g j).sum = (l.map f).sum + (l.map g).sum
  | [] => rfl
  | x :: l => by
    rw [List.map_cons, List.sum_cons, List.map_cons, List.sum_cons, List.map_cons, List.sum_cons, sum_add f g l]
    omega
theorem mult_sum {h s : Nat} (s0 : 0 < s) : ∀ {l : List Nat}, (∀ n ∈ l, n ≤ h) → ((List.range (h / s)).map fun j => geL l ((j + 1) * s)).sum = divS l s
  | [], _ => by
    have : ∀ J : Nat, ((List.range J).map fun j => geL [] ((j + 1) * s)).sum = 0 := fun J => by
      induction J with
      | zero => rfl
      | succ J ih =>
        rw [List.range_succ, List.map_append, List.sum_append, ih]
        rfl
    exact this _
  | n :: l, hl => by
    show ((List.range (h / s)).map fun j => (if (j + 1) * s ≤ n then (1 : Int) else 0) + geL l ((j + 1) * s)).sum = ((n / s : Nat) : Int) + divS l s
    rw [sum_add, mult_sum s0 fun r hr => hl r (List.mem_cons_of_mem _ hr), one_mult n s s0]
    have := Nat.div_le_div_right (c := s) (hl n (by simp))
    rw [Nat.min_eq_right this]
theorem divS_zero {h s : Nat} {l : List Nat} (hl : ∀ n ∈ l, n ≤ h) (hs : h < s) : divS l s = 0 := by
  induction l with
  | nil => rfl
  | cons n l ih =>
    show ((n / s : Nat) : Int) + divS l s = 0
    rw [ih fun r hr => hl r (List.mem_cons_of_mem _ hr), Nat.div_eq_of_lt (by have := hl n (by simp); omega)]
    rfl
theorem sumL_div (l : List Nat) (p : Nat) : (sumL l p : Int) = divS l p + divS l (p * p) + divS l (p * p * p) + divS l (p * p * p * p) + divS l (p * p * p * p * p) + divS l (p * p * p * p * p * p) := by
  induction l with
  | nil => rfl
  | cons n l ih =>
    show ((legN n p + sumL l p : Nat) : Int) = _
    unfold legN
    show _ = (((n / p : Nat) : Int) + divS l p) + (((n / (p * p) : Nat) : Int) + divS l (p * p)) + (((n / (p * p * p) : Nat) : Int) + divS l (p * p * p)) + (((n / (p * p * p * p) : Nat) : Int) + divS l (p * p * p * p)) + (((n / (p * p * p * p * p) : Nat) : Int) + divS l (p * p * p * p * p)) + (((n / (p * p * p * p * p * p) : Nat) : Int) + divS l (p * p * p * p * p * p))
    omega
/-- what is counted at s -/
def atS (above below : List Nat) (s : Nat) : Int := divS above s - divS below s
def runE (above below : List Nat) (p : Nat) : Nat → Int
  | 0 => 0
  | k + 1 => runE above below p k + atS above below (p ^ (k + 1))
theorem runE_all (above below : List Nat) (p : Nat) : runE above below p 6 = expE above below p := by
  unfold expE
  rw [sumL_div, sumL_div]
  show 0 + atS above below (p ^ 1) + atS above below (p ^ 2) + atS above below (p ^ 3) + atS above below (p ^ 4) + atS above below (p ^ 5) + atS above below (p ^ 6) = _
  have e1 : p ^ 1 = p := Nat.pow_one p
  have e2 : p ^ 2 = p * p := by rw [Nat.pow_succ, e1]
  have e3 : p ^ 3 = p * p * p := by rw [Nat.pow_succ, e2]
  have e4 : p ^ 4 = p * p * p * p := by rw [Nat.pow_succ, e3]
  have e5 : p ^ 5 = p * p * p * p * p := by rw [Nat.pow_succ, e4]
  have e6 : p ^ 6 = p * p * p * p * p * p := by rw [Nat.pow_succ, e5]
  rw [e1, e2, e3, e4, e5, e6]
  unfold atS
  omega
/-- nothing more is counted beyond the highest -/
theorem runE_end {above below : List Nat} {h p k : Nat} (p1 : 1 < p) (ha : ∀ n ∈ above, n ≤ h) (hb : ∀ n ∈ below, n ≤ h) (hk : h < p ^ (k + 1)) (k6 : k ≤ 6) : runE above below p k = expE above below p := by
  rw [← runE_all]
  have key : ∀ d, runE above below p (k + d) = runE above below p k := fun d => by
    induction d with
    | zero => rfl
    | succ d ih =>
      show runE above below p (k + d) + atS above below (p ^ (k + d + 1)) = _
      have : p ^ (k + 1) ≤ p ^ (k + d + 1) := Nat.pow_le_pow_right (by omega) (by omega)
      unfold atS
      rw [ih, divS_zero ha (by omega), divS_zero hb (by omega)]
      omega
  have e := key (6 - k)
  rw [show k + (6 - k) = 6 by omega] at e
  exact e.symm
end TCX
/-! a number parted into a square and what is free of squares, by trying. -/
namespace TCX
structure RootI (N left free square p : Nat) : Prop where
  eq : left * free * (square * square) = N
  l0 : 0 < left
  s0 : 0 < square
  p1 : 1 < p
  sf : SqF free
  i1 : ∀ d, 1 < d → d < p → ¬ d ∣ left
  i2 : p ∣ free → ¬ p ∣ left
  i3 : ∀ d, 1 < d → d ∣ free → ∃ q, 1 < q ∧ q ≤ p ∧ q ∣ d
theorem RootI.start {N : Nat} (h : 0 < N) : RootI N N 1 1 2 :=
  ⟨by simp, h, by decide, by decide, SqF.one, fun d h1 h2 => by omega, fun z => by have := Nat.eq_one_of_dvd_one z; omega, fun d h1 h2 => by have := Nat.eq_one_of_dvd_one h2; omega⟩
/-- where p divides what is left, it is a prime -/
theorem RootI.prime {N left free square p : Nat} (h : RootI N left free square p) (hd : p ∣ left) : IsP p := by
  refine ⟨h.p1, fun d dp => ?_⟩
  by_cases h1 : d = 1
  · exact .inl h1
  · by_cases h2 : d = p
    · exact .inr h2
    · have h3 := Nat.le_of_dvd (by have := h.p1; omega) dp
      have h4 : 0 < d := Nat.pos_of_dvd_of_pos dp (by have := h.p1; omega)
      exact absurd (Nat.dvd_trans dp hd) (h.i1 d (by omega) (by omega))
theorem RootI.le {N left free square p : Nat} (h : RootI N left free square p) (hl : 1 < left) : p ≤ left := by
  refine Nat.le_of_not_lt fun z => ?_
  exact h.i1 left hl z (Nat.dvd_refl _)
theorem RootI.sq {N left free square p : Nat} (h : RootI N left free square p) (hd : p * p ∣ left) : RootI N (left / (p * p)) free (square * p) p := by
  have pp : 0 < p * p := Nat.mul_pos (by have := h.p1; omega) (by have := h.p1; omega)
  obtain ⟨k, rfl⟩ := hd
  rw [Nat.mul_div_cancel_left k pp]
  have kd : ∀ d, d ∣ k → d ∣ p * p * k := fun d z => Nat.dvd_trans z (Nat.dvd_mul_left _ _)
  have k0 : 0 < k := Nat.pos_of_ne_zero fun e => by
    have := h.l0
    rw [e, Nat.mul_zero] at this
    omega
  refine ⟨?_, k0, Nat.mul_pos h.s0 (by have := h.p1; omega), h.p1, h.sf, fun d h1 h2 z => h.i1 d h1 h2 (kd d z), fun z y => h.i2 z (kd p y), h.i3⟩
  rw [← h.eq]
  simp only [Nat.mul_assoc, Nat.mul_left_comm, Nat.mul_comm]
theorem RootI.once {N left free square p : Nat} (h : RootI N left free square p) (hn : ¬ p * p ∣ left) (hd : p ∣ left) : RootI N (left / p) (free * p) square p := by
  have hp := h.prime hd
  have p0 : 0 < p := by have := h.p1; omega
  have nf : ¬ p ∣ free := fun z => h.i2 z hd
  obtain ⟨k, rfl⟩ := hd
  rw [Nat.mul_div_cancel_left k p0]
  have kd : ∀ d, d ∣ k → d ∣ p * k := fun d z => Nat.dvd_trans z (Nat.dvd_mul_left _ _)
  have k0 : 0 < k := Nat.pos_of_ne_zero fun e => by
    have := h.l0
    rw [e, Nat.mul_zero] at this
    omega
  refine ⟨?_, k0, h.s0, h.p1, ?_, fun d h1 h2 z => h.i1 d h1 h2 (kd d z), fun _ y => hn (Nat.mul_dvd_mul_left p y), fun d h1 h2 => ?_⟩
  · rw [← h.eq]
    simp only [Nat.mul_assoc, Nat.mul_left_comm, Nat.mul_comm]
  · rw [Nat.mul_comm]
    exact SqF.mul hp h.sf nf
  · by_cases z : p ∣ d
    · exact ⟨p, h.p1, Nat.le_refl _, z⟩
    · have c := (hp.cop z).symm
      rw [Nat.mul_comm] at h2
      exact h.i3 d h1 (Nat.Coprime.dvd_of_dvd_mul_left c h2)
theorem RootI.up {N left free square p : Nat} (h : RootI N left free square p) (hd : ¬ p ∣ left) : RootI N left free square (p + 1) := by
  have i1 : ∀ d, 1 < d → d < p + 1 → ¬ d ∣ left := fun d h1 h2 => by
    by_cases e : d = p
    · rw [e]
      exact hd
    · exact h.i1 d h1 (by omega)
  refine ⟨h.eq, h.l0, h.s0, by have := h.p1; omega, h.sf, i1, fun z y => ?_, fun d h1 h2 => ?_⟩
  · obtain ⟨q, q1, q2, q3⟩ := h.i3 (p + 1) (by have := h.p1; omega) z
    exact i1 q q1 (by omega) (Nat.dvd_trans q3 y)
  · obtain ⟨q, q1, q2, q3⟩ := h.i3 d h1 h2
    exact ⟨q, q1, by omega, q3⟩
theorem RootI.done {N left free square p : Nat} (h : RootI N left free square p) (hl : ¬ 1 < left) : N = square * square * free ∧ SqF free ∧ 0 < square := by
  have e : left = 1 := by have := h.l0; omega
  refine ⟨?_, h.sf, h.s0⟩
  rw [← h.eq, e, Nat.one_mul, Nat.mul_comm]
/-- the root by the primes and the root by trying are one: root and fraction -/
theorem root_one {above below : List Nat} (ha : ∀ n ∈ above, n < 123) (hb : ∀ n ∈ below, n < 123) {up under free square : Nat} (hu : 0 < under) (hq : up * prodF below = under * prodF above) (hN : up * under = square * square * free) (hs : 0 < square) (hf : SqF free) :
    rootE above below = free ∧ topE above below * under = square * botE above below := by
  have pb : 0 < prodF below := by
    rw [prodF_leg hb]
    exact powP_pos pr30_p
  have pa : 0 < prodF above := by
    rw [prodF_leg ha]
    exact powP_pos pr30_p
  have e := rootE_ok ha hb
  -- (top * under)^2 root = (square * bot)^2 free
  have key : (topE above below * under) * (topE above below * under) * rootE above below = (square * botE above below) * (square * botE above below) * free := by
    have z : (topE above below * under) * (topE above below * under) * rootE above below * prodF below = (square * botE above below) * (square * botE above below) * free * prodF below := by
      calc (topE above below * under) * (topE above below * under) * rootE above below * prodF below
          = under * under * (topE above below * topE above below * rootE above below * prodF below) := by simp only [Nat.mul_assoc, Nat.mul_left_comm, Nat.mul_comm]
        _ = under * under * (botE above below * botE above below * prodF above) := by rw [e]
        _ = (botE above below * botE above below * under) * (under * prodF above) := by simp only [Nat.mul_assoc, Nat.mul_left_comm, Nat.mul_comm]
        _ = (botE above below * botE above below * under) * (up * prodF below) := by rw [hq]
        _ = (botE above below * botE above below) * (up * under) * prodF below := by simp only [Nat.mul_assoc, Nat.mul_left_comm, Nat.mul_comm]
        _ = (botE above below * botE above below) * (square * square * free) * prodF below := by rw [hN]
        _ = _ := by simp only [Nat.mul_assoc, Nat.mul_left_comm, Nat.mul_comm]
    exact Nat.eq_of_mul_eq_mul_right pb z
  obtain ⟨h1, h2⟩ := sq_uniq (Nat.mul_pos (topE_pos _ _) hu) (rootE_sqF _ _) hf key
  exact ⟨h2, h1⟩
end TCX
namespace TC
open PySem PySem.Spec PyProof.Rows L2 TCX
section
variable {P : Program} {w : World} {K : PySem.W.Frag} {mg : Str → Option Value} {base : Heap} {f : Addr} {fd : FuncData}
/-! ### is_odd -/
def spOdd : Sp := fun vs H Q _ => ∃ n : Int, vs = [.int n] ∧ Q (.bl (decide (n % 2 = 1))) H
abbrev nOdd : List Str := ["number"]
theorem scOdd : FnScope nOdd ["number"] (defScope sOdd) := ⟨rfl, rfl, rfl, by decide +kernel, rfl, by decide +kernel, by decide +kernel⟩
theorem ok_odd (F : FnP K "is_odd" sOdd f fd) : FnOk P w K mg base CX0 1 f fd ["number"] spOdd := by
  refine F.ok scOdd (fun vs H Q E h => ?_) (fun cdv A outer s H vs Q E hr h => ?_)
  · obtain ⟨_, rfl, _⟩ := h
    rfl
  · obtain ⟨n, rfl, q⟩ := h
    refine ⟨_, PSs.nox (pss_one (ps_ret (pe_cmpR op_eq (pe_op op_mod (pv 0) pe_int) pe_int (nomark _)))), ?_⟩
    refine ⟨_, rfl, n, 2, rfl, rfl, (by show (0 : Int) < 2; decide), rfl, ?_⟩
    have e : decide (V.int (n % 2) = V.int 1) = decide (n % 2 = 1) := by
      by_cases h : n % 2 = 1
      · rw [h]
        rfl
      · rw [decide_eq_false h, decide_eq_false fun z => h (V.int.inj z)]
    show Q (.bl (decide (V.int (n % 2) = V.int 1))) _
    rw [e]
    exact q
/-! ### _law_factorial -/
def spFactL : Sp := fun vs H Q _ => ∃ n : Nat, vs = [.int n] ∧ n ≤ 200 ∧ Q (.int (factN n : Nat)) H
abbrev nFactorial : List Str := ["_law_n", "_law_found", "_law_k"]
/-! ### factorials -/
def spFacts : Sp := fun vs H Q _ => ∃ n : Nat, vs = [.int n] ∧ n ≤ 200 ∧ ∀ l, H l = none → Q (.ref l) (upd H l (.lst ((List.range (n + 1)).map fun m => V.int (factN m : Nat))))
abbrev nFacts : List Str := ["high", "found", "number"]
end
end TC
namespace TC
set_option exponentiation.threshold 20000
open PySem PySem.Spec PyProof.Rows L2 TCX
theorem iteB {b : Bool} {A B : Prop} (h1 : b = true → A) (h2 : b = false → B) : if b = true then A else B := by
  cases b
  · exact iteF (h2 rfl)
  · exact iteT (h1 rfl)
theorem nat_bits {n : Nat} {A : Nat} (h : n < 2 ^ A) : (n : Int).natAbs < 2 ^ A := by
  rw [Int.natAbs_natCast]
  exact h
def muR : L2.St → Nat
  | [_, _, some (.int l), _, _, some (.int p)] => (2 * l - p).toNat
  | _ => 0
theorem RootI.bound {N left free square p : Nat} (h : RootI N left free square p) (h0 : 0 < N) : left ≤ N ∧ free ≤ N ∧ square ≤ N := by
  have e := h.eq
  have f0 := h.sf.pos
  have s0 := h.s0
  have l0 := h.l0
  refine ⟨Nat.le_of_dvd h0 ⟨free * (square * square), by rw [← e, Nat.mul_assoc]⟩, Nat.le_of_dvd h0 ⟨left * (square * square), ?_⟩, Nat.le_of_dvd h0 ⟨left * free * square, ?_⟩⟩
  · rw [← e]
    simp only [Nat.mul_assoc, Nat.mul_left_comm, Nat.mul_comm]
  · rw [← e]
    simp only [Nat.mul_assoc, Nat.mul_left_comm, Nat.mul_comm]
theorem mod_dvd {a b : Nat} : decide (V.int ((a : Int) % (b : Int)) = V.int 0) = decide (b ∣ a) := by
  by_cases h : b ∣ a
  · rw [decide_eq_true h]
    refine decide_eq_true ?_
    obtain ⟨k, rfl⟩ := h
    rw [Int.natCast_mul, Int.mul_emod_right]
  · rw [decide_eq_false h]
    refine decide_eq_false fun z => h ?_
    have z2 : (a : Int) % (b : Int) = 0 := V.int.inj z
    exact Int.natCast_dvd_natCast.mp (Int.dvd_of_emod_eq_zero z2)
section
variable {P : Program} {w : World} {K : PySem.W.Frag} {mg : Str → Option Value} {base : Heap} {f : Addr} {fd : FuncData}
/-! ### _law_rooted -/
def spRooted : Sp := fun vs H Q _ => ∃ up under : Nat, vs = [.int up, .int under] ∧ 0 < up ∧ 0 < under ∧ up < 2 ^ 3000 ∧ under < 2 ^ 3000 ∧
  ∀ (sq fr : Nat) (d T : Addr) H', H d = none → up * under = sq * sq * fr → SqF fr → 0 < sq → Same H H' → H' d = some (.dK [((Sum.inl (fr : Int) : Key), .ref T)]) → H' T = some (.tup [.int (TCM.lowL sq under).1, .int (TCM.lowL sq under).2]) → Q (.ref d) H'
abbrev nRooted : List Str := ["_law_up", "_law_under", "_law_left", "_law_free", "_law_square", "_law_p"]
end
end TC
namespace TC
open PySem PySem.Spec PyProof.Rows L2 TCX
def canB (a b c : Int) : Bool := !decide ((a + b + c) % 2 = 1) && (decide (a ≤ b + c) && (decide (b ≤ a + c) && decide (c ≤ a + b)))
theorem canB_iff {a b c : Int} : canB a b c = true ↔ (a + b + c) % 2 = 0 ∧ a ≤ b + c ∧ b ≤ a + c ∧ c ≤ a + b := by
  unfold canB
  simp only [Bool.and_eq_true, Bool.not_eq_true', decide_eq_true_eq, decide_eq_false_iff_not]
  omega
/-- a size and an offset of it -/
structure PairP (t o : Int) : Prop where
  t0 : 0 ≤ t
  t1 : t ≤ 40
  lo : -t ≤ o
  hi : o ≤ t
  ev : (t - o) % 2 = 0
section
variable {X : Cx}
theorem iop_mulW : OpR X (inplaceOp .Mult) (rI CMulW fun i j => .int (i * j)) := opI fun _ _ _ _ _ _ _ hc q => imul_int q hc.ok
end
section
variable {P : Program} {w : World} {K : PySem.W.Frag} {mg : Str → Option Value} {base : Heap} {f : Addr} {fd : FuncData} {C fI fQ : Addr}
/-! ### can_join -/
def spCanJoin : Sp := fun vs H Q _ => ∃ a b c : Int, vs = [.int a, .int b, .int c] ∧ Q (.bl (canB a b c)) H
abbrev nCanJoin : List Str := ["one", "other", "third"]
theorem scCanJoin : FnScope nCanJoin ["one", "other", "third"] (defScope sCanJoin) := ⟨rfl, rfl, rfl, by decide +kernel, rfl, by decide +kernel, by decide +kernel⟩
theorem ok_canJoin {fO : Addr} {fdO : FuncData} (F : FnP K "can_join" sCanJoin f fd) (GO : FnOk P w K mg base CX0 1 fO fdO ["number"] spOdd) (bO : L2.Binds K fdO ["number"] []) (kO : PySem.W.keepIn K (.ref fO) = true) (gO : mg "is_odd" = some (.ref fO)) :
    FnOk P w K mg base CX0 2 f fd ["one", "other", "third"] spCanJoin := by
  refine F.ok scCanJoin (fun vs H Q E h => ?_) (fun cdv A outer s H vs Q E hr h => ?_)
  · obtain ⟨_, _, _, rfl, _⟩ := h
    rfl
  obtain ⟨a, b, c, rfl, q⟩ := h
  have hr1 := hr.mono (j := 1) (by decide)
  refine ⟨_, PSs.nox (pss_cons (ps_if (pt_val (pe_call GO hr1 (by rfl) gO kO bO .nil pass0 (pa_cons (pe_op op_add (pe_op op_add (pv 0) (pv 1)) (pv 2)) pa_nil))) (pss_one (ps_ret pe_bl)) pss_nil)
      (pss_one (ps_ret (pe_and (pe_cmpR op_le (pv 0) (pe_op op_add (pv 1) (pv 2)) (nomark _)) (pe_and (pe_cmpR op_le (pv 1) (pe_op op_add (pv 0) (pv 2)) (nomark _)) (pe_one (pe_cmpR op_le (pv 2) (pe_op op_add (pv 0) (pv 1)) (nomark _)))))))), ?_⟩
  refine ⟨_, rfl, _, rfl, a, b, rfl, rfl, _, rfl, a + b, c, rfl, rfl, a + b + c, rfl, _, rfl, ?_⟩
  unfold canB at q
  by_cases h1 : (a + b + c) % 2 = 1
  · refine iteD1 h1 ?_
    rw [decide_eq_true h1] at q
    exact q
  refine iteD0 h1 ?_
  rw [decide_eq_false h1, show (!false) = true from rfl, Bool.true_and] at q
  refine ⟨_, rfl, _, rfl, _, rfl, b, c, rfl, rfl, a, b + c, rfl, rfl, _, rfl, ?_⟩
  by_cases h2 : a ≤ b + c
  · refine iteD1 h2 ?_
    rw [decide_eq_true h2, Bool.true_and] at q
    refine ⟨_, rfl, _, rfl, _, rfl, a, c, rfl, rfl, b, a + c, rfl, rfl, _, rfl, ?_⟩
    by_cases h3 : b ≤ a + c
    · refine iteD1 h3 ?_
      rw [decide_eq_true h3, Bool.true_and] at q
      exact ⟨_, rfl, _, rfl, _, rfl, a, b, rfl, rfl, c, a + b, rfl, rfl, q⟩
    · refine iteD0 h3 ?_
      rw [decide_eq_false h3, Bool.false_and] at q
      exact q
  · refine iteD0 h2 ?_
    rw [decide_eq_false h2, Bool.false_and] at q
    exact q
/-! ### is_size, is_offset, need_sizes, need_pairs, of what is right -/
def spIsSize : Sp := fun vs H Q _ => ∃ n : Int, vs = [.int n] ∧ 0 ≤ n ∧ n ≤ 40 ∧ Q (.bl true) H
abbrev nIsSize : List Str := ["thing"]
theorem scIsSize : FnScope nIsSize ["thing"] (defScope sIsSize) := ⟨rfl, rfl, rfl, by decide +kernel, rfl, by decide +kernel, by decide +kernel⟩
theorem ok_isSize {fW : Addr} {fdW : FuncData} {tH : Tok} (F : FnP K "is_size" sIsSize f fd) (GW : FnOk P w K mg base CX0 1 fW fdW ["thing"] spWhole) (bW : L2.Binds K fdW ["thing"] []) (kW : PySem.W.keepIn K (.ref fW) = true) (gW : mg "is_whole" = some (.ref fW)) (gH : mg "HIGHEST_SIZE" = some (.int 40 tH)) :
    FnOk P w K mg base CX0 2 f fd ["thing"] spIsSize := by
  refine F.ok scIsSize (fun vs H Q E h => ?_) (fun cdv A outer s H vs Q E hr h => ?_)
  · obtain ⟨_, rfl, _⟩ := h
    rfl
  obtain ⟨n, rfl, n0, n1, q⟩ := h
  have hr1 := hr.mono (j := 1) (by decide)
  refine ⟨_, PSs.nox (pss_one (ps_ret (pe_and (pe_call GW hr1 (by rfl) gW kW bW .nil pass0 (pa_cons (pv 0) pa_nil)) (pe_one (pe_chain op_le op_le pe_int (pv 0) (pe_glob (v := .int 40) (by rfl) gH ⟨_, rfl⟩)))))), ?_⟩
  refine ⟨_, rfl, n, rfl, true, rfl, iteT ?_⟩
  refine ⟨_, rfl, 0, n, rfl, rfl, true, congrArg V.bl (decide_eq_true n0), iteT ?_⟩
  refine ⟨n, 40, rfl, rfl, ?_⟩
  show Q (.bl (decide (n ≤ 40))) _
  rw [decide_eq_true n1]
  exact q
def spIsOffset : Sp := fun vs H Q _ => ∃ t o : Int, vs = [.int o, .int t] ∧ PairP t o ∧ Q (.bl true) H
abbrev nIsOffset : List Str := ["thing", "size"]
theorem scIsOffset : FnScope nIsOffset ["thing", "size"] (defScope sIsOffset) := ⟨rfl, rfl, rfl, by decide +kernel, rfl, by decide +kernel, by decide +kernel⟩
theorem ok_isOffset {fW fO : Addr} {fdW fdO : FuncData} (F : FnP K "is_offset" sIsOffset f fd) (GW : FnOk P w K mg base CX0 1 fW fdW ["thing"] spWhole) (bW : L2.Binds K fdW ["thing"] []) (kW : PySem.W.keepIn K (.ref fW) = true) (gW : mg "is_whole" = some (.ref fW))
    (GO : FnOk P w K mg base CX0 1 fO fdO ["number"] spOdd) (bO : L2.Binds K fdO ["number"] []) (kO : PySem.W.keepIn K (.ref fO) = true) (gO : mg "is_odd" = some (.ref fO)) :
    FnOk P w K mg base CX0 2 f fd ["thing", "size"] spIsOffset := by
  refine F.ok scIsOffset (fun vs H Q E h => ?_) (fun cdv A outer s H vs Q E hr h => ?_)
  · obtain ⟨_, _, rfl, _⟩ := h
    rfl
  obtain ⟨t, o, rfl, ⟨t0, t1, h1, h2, h3⟩, q⟩ := h
  have hr1 := hr.mono (j := 1) (by decide)
  refine ⟨_, PSs.nox (pss_one (ps_ret (pe_and (pe_call GW hr1 (by rfl) gW kW bW .nil pass0 (pa_cons (pv 0) pa_nil)) (pe_and (pe_chain op_le op_le (pe_un un_neg (pv 1)) (pv 0) (pv 1)) (pe_one (pe_not (pe_call GO hr1 (by rfl) gO kO bO .nil pass0 (pa_cons (pe_op op_sub (pv 1) (pv 0)) pa_nil)))))))), ?_⟩
  refine ⟨_, rfl, o, rfl, true, rfl, iteT ?_⟩
  refine ⟨_, rfl, t, rfl, _, rfl, -t, o, rfl, rfl, true, congrArg V.bl (decide_eq_true h1), iteT ?_⟩
  refine ⟨_, rfl, o, t, rfl, rfl, true, congrArg V.bl (decide_eq_true h2), iteT ?_⟩
  refine ⟨_, rfl, _, rfl, t, o, rfl, rfl, t - o, rfl, false, congrArg V.bl (decide_eq_false (by omega)), q⟩
def spNeedSizes : Sp := fun vs H Q _ => ∃ (l : Addr) (ns : List Int), vs = [.ref l] ∧ H l = some (.lst (ns.map V.int)) ∧ (∀ n ∈ ns, 0 ≤ n ∧ n ≤ 40) ∧ Q .non H
abbrev nNeedSizes : List Str := ["things", "thing"]
theorem scNeedSizes : FnScope nNeedSizes ["things"] (defScope sNeedSizes) := ⟨rfl, rfl, rfl, by decide +kernel, rfl, by decide +kernel, by decide +kernel⟩
theorem ok_needSizes {fS : Addr} {fdS : FuncData} (F : FnP K "need_sizes" sNeedSizes f fd) (GS : FnOk P w K mg base CX0 2 fS fdS ["thing"] spIsSize) (bS : L2.Binds K fdS ["thing"] []) (kS : PySem.W.keepIn K (.ref fS) = true) (gS : mg "is_size" = some (.ref fS)) :
    FnOk P w K mg base CX0 3 f fd ["things"] spNeedSizes := by
  refine F.ok scNeedSizes (fun vs H Q E h => ?_) (fun cdv A outer s H vs Q E hr h => ?_)
  · obtain ⟨_, _, rfl, _⟩ := h
    rfl
  obtain ⟨l, ns, rfl, hl, hn, q⟩ := h
  have hr2 := hr.mono (j := 2) (by decide)
  refine ⟨_, PSs.nox (pss_one (ps_for PassesOwn.never rfl (pi_list (pv 0)) (pg_name (i := 1) scNeedSizes.nd rfl (.inl rfl))
        (pss_one (ps_if (pt_not (pt_val (pe_call GS hr2 (by rfl) gS kS bS .nil pass0 (pa_cons (pv 1) pa_nil)))) pss_never pss_nil)))), ?_⟩
  refine ⟨_, rfl, l, rfl, ⟨_, SqL.of hl⟩, for_list (xs := ns.map V.int) (fun i σ H' => (∃ v, σ = [some (.ref l), v]) ∧ H' = H) ⟨⟨none, rfl⟩, rfl⟩ (fun i σ H' _ hP => by rw [hP.2]; exact SqL.of hl) (fun i x σ H' hx hP => ?_) (fun σ H' hP => by rw [hP.2]; exact q)⟩
  obtain ⟨⟨v, rfl⟩, rfl⟩ := hP
  rw [List.getElem?_map] at hx
  cases e : ns[i]? with
  | none =>
    rw [e] at hx
    cases hx
  | some n =>
    rw [e] at hx
    obtain rfl := Option.some.inj hx
    obtain ⟨n0, n1⟩ := hn n (List.mem_of_getElem? e)
    exact ⟨_, rfl, n, rfl, n0, n1, true, rfl, iteF ⟨⟨_, rfl⟩, rfl⟩⟩
/-- pairs on the heap -/
def pairO (x : Int × Int) : HO := .tup [.int x.1, .int x.2]
def PrsAt (H : Hp) : List Addr → List (Int × Int) → Prop
  | [], [] => True
  | u :: us, x :: L => H u = some (pairO x) ∧ PrsAt H us L
  | _, _ => False
theorem PrsAt.get {H : Hp} : ∀ {us : List Addr} {L : List (Int × Int)} {i : Nat} {v : V}, PrsAt H us L → (us.map V.ref)[i]? = some v → ∃ u x, v = .ref u ∧ L[i]? = some x ∧ H u = some (pairO x)
  | [], [], i, v, _, z => by simp at z
  | u :: us, p :: ps, 0, v, h, z => ⟨u, p, (Option.some.inj z).symm, rfl, h.1⟩
  | u :: us, p :: ps, i + 1, v, h, z => by
    have z' : (us.map V.ref)[i]? = some v := z
    obtain ⟨u', p', a, b, c⟩ := PrsAt.get h.2 z'
    exact ⟨u', p', a, b, c⟩
  | [], _ :: _, _, _, h, _ => h.elim
  | _ :: _, [], _, _, h, _ => h.elim
theorem PrsAt.same {H H' : Hp} (s : Same H H') : ∀ {us : List Addr} {L : List (Int × Int)}, PrsAt H us L → PrsAt H' us L
  | [], [], _ => trivial
  | _ :: _, _ :: _, h => ⟨s _ _ h.1, PrsAt.same s h.2⟩
  | [], _ :: _, h => h.elim
  | _ :: _, [], h => h.elim
def spNeedPairs : Sp := fun vs H Q _ => ∃ (l : Addr) (us : List Addr) (L : List (Int × Int)), vs = [.ref l] ∧ H l = some (.lst (us.map V.ref)) ∧ PrsAt H us L ∧ (∀ x ∈ L, PairP x.1 x.2) ∧ ∀ H', Same H H' → Q .non H'
abbrev nNeedPairs : List Str := ["things", "thing", "size", "offset"]
theorem scNeedPairs : FnScope nNeedPairs ["things"] (defScope sNeedPairs) := ⟨rfl, rfl, rfl, by decide +kernel, rfl, by decide +kernel, by decide +kernel⟩
theorem ok_needPairs {fN fF : Addr} {fdN fdF : FuncData} (F : FnP K "need_pairs" sNeedPairs f fd) (GN : FnOk P w K mg base CX0 3 fN fdN ["things"] spNeedSizes) (bN : L2.Binds K fdN ["things"] []) (kN : PySem.W.keepIn K (.ref fN) = true) (gN : mg "need_sizes" = some (.ref fN))
    (GF : FnOk P w K mg base CX0 2 fF fdF ["thing", "size"] spIsOffset) (bF : L2.Binds K fdF ["thing", "size"] []) (kF : PySem.W.keepIn K (.ref fF) = true) (gF : mg "is_offset" = some (.ref fF)) (gisinstance : mg "isinstance" = none) (gtuple : mg "tuple" = none) (glen : mg "len" = none) :
    FnOk P w K mg base CX0 4 f fd ["things"] spNeedPairs := by
  refine F.ok scNeedPairs (fun vs H Q E h => ?_) (fun cdv A outer s H vs Q E hr h => ?_)
  · obtain ⟨_, _, _, rfl, _⟩ := h
    rfl
  obtain ⟨l, us, L, rfl, hl, hp, hL, q⟩ := h
  have hr2 := hr.mono (j := 2) (by decide)
  have hr3 := hr.mono (j := 3) (by decide)
  refine ⟨_, PSs.nox (pss_cons (ps_for PassesOwn.never rfl (pi_list (pv 0)) (pg_name (i := 1) scNeedPairs.nd rfl (.inl rfl))
        (pss_cons (ps_if (PW.pt (pw_or (pt_not (pt_val (pe_callB call_isi (by rfl) gisinstance (by decide +kernel) (pa_cons (pv 1) (pa_cons (pe_bltn (v := .ty "tuple") (by rfl) gtuple (by decide +kernel) rfl) pa_nil))))) (pw_or1 (pt_cmpR op_ne (pe_callB call_len_seq (by rfl) glen PySem.boot_len (pa_cons (pv 1) pa_nil)) pe_int (nomark _))))) pss_never pss_nil)
      (pss_one (ps_expr (pe_call GN hr3 (by rfl) gN kN bN .nil pass0 (pa_cons (pe_lst (pa_cons (pe_ix ix_tup (pv 1) pe_int (fun _ _ => rfl)) pa_nil)) pa_nil))))))
      (pss_one (ps_for PassesOwn.never rfl (pi_list (pv 0)) (pg_tup rfl (pgs_cons (pg_name (i := 2) scNeedPairs.nd rfl (.inl rfl)) (pgs_cons (pg_name (i := 3) scNeedPairs.nd rfl (.inl rfl)) pgs_nil)))
        (pss_one (ps_if (pt_not (pt_val (pe_call GF hr2 (by rfl) gF kF bF .nil pass0 (pa_cons (pv 3) (pa_cons (pv 2) pa_nil))))) pss_never pss_nil))))), ?_⟩
  refine ⟨_, rfl, l, rfl, ⟨_, SqL.of hl⟩, for_list (xs := us.map V.ref) (fun i σ H' => (∃ v, σ = [some (.ref l), v, none, none]) ∧ Same H H') ⟨⟨none, rfl⟩, fun _ _ e => e⟩ (fun i σ H' _ hP => SqL.of (hP.2 _ _ hl)) (fun i x σ H' hx hP => ?_) (fun σ H' hP => ?_)⟩
  · obtain ⟨⟨v, rfl⟩, sm⟩ := hP
    obtain ⟨u, y, rfl, hy, hu⟩ := (hp.same sm).get hx
    have hpair := hL y (List.mem_of_getElem? hy)
    refine ⟨_, rfl, _, _, _, _, true, rfl, .ty "tuple", .base (.tup hu), kit_ty (by decide +kernel), true, rfl, iteF ?_⟩
    refine ⟨_, rfl, u, _, rfl, .inr (SqT.of hu), rfl, _, rfl, iteF ?_⟩
    refine ⟨_, rfl, u, _, 0, _, rfl, rfl, SqT.of hu, atI_nat (j := 0) rfl, by show 1 ≤ sizeLine; decide, fun l2 hl2 => ?_⟩
    exact ⟨l2, [y.1], rfl, upd_same, (fun n hn => by rw [List.mem_singleton.mp hn]; exact ⟨hpair.t0, hpair.t1⟩), ⟨_, rfl⟩, sm.trans (same_upd hl2)⟩
  · obtain ⟨⟨v, rfl⟩, sm⟩ := hP
    refine ⟨_, rfl, l, rfl, ⟨_, SqL.of (sm _ _ hl)⟩, for_list (xs := us.map V.ref) (fun i σ G => (∃ v2 v3, σ = [some (.ref l), v, v2, v3]) ∧ G = H') ⟨⟨none, none, rfl⟩, rfl⟩ (fun i σ G _ hP => by rw [hP.2]; exact SqL.of (sm _ _ hl)) (fun i x σ G hx hP => ?_) (fun σ G hP => by rw [hP.2]; exact q H' sm)⟩
    obtain ⟨⟨v2, v3, rfl⟩, rfl⟩ := hP
    obtain ⟨u, y, rfl, hy, hu⟩ := (hp.same sm).get hx
    have hpair := hL y (List.mem_of_getElem? hy)
    exact ⟨u, _, rfl, SqT.of hu, rfl, _, _, rfl, _, _, rfl, rfl, _, rfl, _, rfl, y.1, y.2, rfl, hpair, true, rfl, iteF ⟨⟨_, _, rfl⟩, rfl⟩⟩
end
end TC
namespace TCX
open PySem PySem.Spec PyProof.Rows L2
/-- an own class over IndexError -/
def iBase : List Value := [.type "IndexError", .type "LookupError", .type "Exception", .type "BaseException", .type "object"]
def excI (K : PySem.W.Frag) (x : Str) : Bool := PySem.W.excIn K (He.ga K x) iBase "IndexError.__new__" && (PySem.W.keepIn K (.ref (He.ga K x)) && (decide (PySem.W.subIn K (.ref (He.ga K x)) (.type "BaseException") = some true) && decide (PySem.W.typeIn K (.ref (He.ga K x)) = some (.type "type"))))
theorem excI_ok {K : PySem.W.Frag} {x : Str} (h : excI K x = true) : PySem.W.excIn K (He.ga K x) iBase "IndexError.__new__" = true ∧ PySem.W.keepIn K (.ref (He.ga K x)) = true ∧ PySem.W.subIn K (.ref (He.ga K x)) (.type "BaseException") = some true ∧ PySem.W.typeIn K (.ref (He.ga K x)) = some (.type "type") := by
  obtain ⟨h1, h⟩ := He.ba h
  obtain ⟨h2, h⟩ := He.ba h
  obtain ⟨h3, h4⟩ := He.ba h
  exact ⟨h1, h2, of_decide_eq_true h3, of_decide_eq_true h4⟩
end TCX
namespace TB
set_option exponentiation.threshold 20000
open TC PySem PySem.Spec PyProof.Rows L2 TCA TCX
def offB (t n : Int) : Bool := decide (-t ≤ n) && (decide (n ≤ t) && !decide ((t - n) % 2 = 1))
/-- whether o is an offset of the size n -/
def OffV (K : PySem.W.Frag) (H : Hp) (n : Int) (o : V) (b : Bool) : Prop := (∃ m : Int, o = .int m ∧ b = offB n m) ∨ (b = false ∧ NotInt K H o)
/-- a thing in a pair's place: whether its size is one, whether its offset then is one -/
def PrV (K : PySem.W.Frag) (H : Hp) (v : V) (k : Bool × Bool) : Prop :=
  (∃ (p : Addr) (t o : V), v = .ref p ∧ H p = some (.tup [t, o]) ∧ Siz K H t k.1 ∧ (k.1 = true → ∃ n : Int, t = .int n ∧ OffV K H n o k.2)) ∨
  (k.1 = false ∧ ∃ ty, TyX K H v ty ∧ PySem.W.kitOne K ty (.type "tuple") = some false) ∨
  (k.1 = false ∧ ∃ (p : Addr) (xs : List V), v = .ref p ∧ H p = some (.tup xs) ∧ xs.length ≠ 2)
theorem OffV.same {K : PySem.W.Frag} {H H' : Hp} {n : Int} {o : V} {b : Bool} (h : OffV K H n o b) (s : Same H H') : OffV K H' n o b := by
  rcases h with h | ⟨e, h⟩
  · exact .inl h
  · exact .inr ⟨e, h.same s⟩
theorem PrV.same {K : PySem.W.Frag} {H H' : Hp} {v : V} {k : Bool × Bool} (h : PrV K H v k) (s : Same H H') : PrV K H' v k := by
  rcases h with ⟨p, t, o, e, hp, ht, ho⟩ | ⟨e, ty, h1, h2⟩ | ⟨e, p, xs, e2, hp, hl⟩
  · refine .inl ⟨p, t, o, e, s _ _ hp, ht.same s, fun z => ?_⟩
    obtain ⟨n, en, h⟩ := ho z
    exact ⟨n, en, h.same s⟩
  · exact .inr (.inl ⟨e, ty, TyX.same h1 s, h2⟩)
  · exact .inr (.inr ⟨e, p, xs, e2, s _ _ hp, hl⟩)
theorem prs_same {K : PySem.W.Frag} {H H' : Hp} (s : Same H H') {xs : List V} {ks : List (Bool × Bool)} (h : Paired (PrV K H) xs ks) : Paired (PrV K H') xs ks := by
  induction h with
  | nil => exact .nil
  | cons r _ ih => exact .cons (r.same s) ih
theorem all_take1 {α : Type} {f : α → Bool} {ks : List α} {i : Nat} {k : α} (h : (ks.take i).all f = true) (hb : ks[i]? = some k) (h2 : f k = true) : (ks.take (i + 1)).all f = true := by
  rw [List.take_add_one, List.all_append, h, hb]
  show (true && (f k && true)) = true
  rw [h2]
  rfl
theorem all_false1 {α : Type} {f : α → Bool} {ks : List α} {i : Nat} {k : α} (hb : ks[i]? = some k) (h2 : f k = false) : ks.all f = false :=
  List.all_eq_false.mpr ⟨k, List.mem_of_getElem? hb, fun z => by rw [h2] at z; cases z⟩
section
variable {P : Program} {w : World} {K : PySem.W.Frag} {mg : Str → Option Value} {base : Heap} {f : Addr} {fd : FuncData} {CS CO CW C : Addr}
/-! ### is_offset -/
def spIsOffV (K : PySem.W.Frag) : Sp := fun vs H Q _ => ∃ (n : Int) (o : V) (b : Bool), vs = [o, .int n] ∧ OffV K H n o b ∧ Q (.bl b) H
theorem ok_isOffV {fW fO : Addr} {fdW fdO : FuncData} (F : FnP K "is_offset" sIsOffset f fd) (GW : FnOk P w K mg base CX0 1 fW fdW ["thing"] (TB.spWhole K)) (bW : L2.Binds K fdW ["thing"] []) (kW : PySem.W.keepIn K (.ref fW) = true) (gW : mg "is_whole" = some (.ref fW))
    (GO : FnOk P w K mg base CX0 1 fO fdO ["number"] TC.spOdd) (bO : L2.Binds K fdO ["number"] []) (kO : PySem.W.keepIn K (.ref fO) = true) (gO : mg "is_odd" = some (.ref fO)) :
    FnOk P w K mg base CX0 2 f fd ["thing", "size"] (spIsOffV K) := by
  refine F.ok scIsOffset (fun vs H Q E h => ?_) (fun cdv A outer s H vs Q E hr h => ?_)
  · obtain ⟨_, _, _, rfl, _⟩ := h
    rfl
  obtain ⟨t, ov, b, rfl, ho, q⟩ := h
  have hr1 := hr.mono (j := 1) (by decide)
  refine ⟨_, PSs.nox (pss_one (ps_ret (pe_and (pe_call GW hr1 (by rfl) gW kW bW .nil pass0 (pa_cons (pv 0) pa_nil)) (pe_and (pe_chain op_le op_le (pe_un un_neg (pv 1)) (pv 0) (pv 1)) (pe_one (pe_not (pe_call GO hr1 (by rfl) gO kO bO .nil pass0 (pa_cons (pe_op op_sub (pv 1) (pv 0)) pa_nil)))))))), ?_⟩
  rcases ho with ⟨o, rfl, rfl⟩ | ⟨rfl, hn⟩
  · refine ⟨_, rfl, .inl ⟨o, rfl, true, rfl, iteT ?_⟩⟩
    unfold offB at q
    by_cases h1 : -t ≤ o
    · rw [decide_eq_true h1, Bool.true_and] at q
      by_cases h2 : o ≤ t
      · rw [decide_eq_true h2, Bool.true_and] at q
        refine ⟨_, rfl, t, rfl, _, rfl, -t, o, rfl, rfl, true, congrArg V.bl (decide_eq_true h1), iteT ?_⟩
        refine ⟨_, rfl, o, t, rfl, rfl, true, congrArg V.bl (decide_eq_true h2), iteT ?_⟩
        exact ⟨_, rfl, _, rfl, t, o, rfl, rfl, t - o, rfl, _, rfl, q⟩
      · rw [decide_eq_false h2, Bool.false_and] at q
        refine ⟨_, rfl, t, rfl, _, rfl, -t, o, rfl, rfl, true, congrArg V.bl (decide_eq_true h1), iteT ?_⟩
        exact ⟨_, rfl, o, t, rfl, rfl, false, congrArg V.bl (decide_eq_false h2), iteF q⟩
    · rw [decide_eq_false h1, Bool.false_and] at q
      refine ⟨_, rfl, t, rfl, _, rfl, -t, o, rfl, rfl, false, congrArg V.bl (decide_eq_false h1), iteF ?_⟩
      exact ⟨_, rfl, iteF q⟩
  · exact ⟨_, rfl, .inr ⟨ov, rfl, hn, false, rfl, iteF q⟩⟩
/-! ### need_pairs -/
def spNeedP (K : PySem.W.Frag) (CS CO : Addr) : Sp := fun vs H Q E => ∃ (l : Addr) (xs : List V) (ks : List (Bool × Bool)), vs = [.ref l] ∧ H l = some (.lst xs) ∧ Paired (PrV K H) xs ks ∧ (ks.all (·.1) = false → ∀ H', Same H H' → E (.ref CS) none H') ∧ (ks.all (·.1) = true → ks.all (·.2) = false → ∀ H', Same H H' → E (.ref CO) none H') ∧
  (ks.all (·.1) = true → ks.all (·.2) = true → ∀ H', Same H H' → Q .non H')
theorem ok_needP {fN fF : Addr} {fdN fdF : FuncData} (F : FnP K "need_pairs" sNeedPairs f fd) (GN : FnOk P w K mg base (L2.CX P w) 3 fN fdN ["things"] (spNeed K CS)) (bN : L2.Binds K fdN ["things"] []) (kN : PySem.W.keepIn K (.ref fN) = true) (gN : mg "need_sizes" = some (.ref fN))
    (GF : FnOk P w K mg base CX0 2 fF fdF ["thing", "size"] (spIsOffV K)) (bF : L2.Binds K fdF ["thing", "size"] []) (kF : PySem.W.keepIn K (.ref fF) = true) (gF : mg "is_offset" = some (.ref fF)) (gisinstance : mg "isinstance" = none) (gtuple : mg "tuple" = none) (glen : mg "len" = none)
    (XS : XTxt K mg "NoSize" CS) (XO : XTxt K mg "NoOffset" CO) :
    FnOk P w K mg base (L2.CX P w) 4 f fd ["things"] (spNeedP K CS CO) := by
  refine F.ok scNeedPairs (fun vs H Q E h => ?_) (fun cdv A outer s H vs Q E hr h => ?_)
  · obtain ⟨_, _, _, rfl, _⟩ := h
    rfl
  obtain ⟨l, xs, ks, rfl, hl, hp, q1, q2, q3⟩ := h
  have hr2 := hr.mono (j := 2) (by decide)
  have hr3 := hr.mono (j := 3) (by decide)
  refine ⟨_, pss_cons (ps_for (passes_of rfl) rfl (pi_list (pv 0)) (pg_name (i := 1) scNeedPairs.nd rfl (.inl rfl))
        (pss_cons (ps_if (PW.pt (pw_or (pt_not (pt_val (pe_callB call_isi (by rfl) gisinstance (by decide +kernel) (pa_cons (pv 1) (pa_cons (pe_bltn (v := .ty "tuple") (by rfl) gtuple (by decide +kernel) rfl) pa_nil))))) (pw_or1 (pt_cmpR op_ne (pe_callB call_len_seq (by rfl) glen PySem.boot_len (pa_cons (pv 1) pa_nil)) pe_int (nomark _)))))
          (pss_one (ps_raise rfl (takes_of rfl rfl rfl rfl) (pmk_own PySem.F.excBase_ValueError XS.e XS.g XS.k (raises_own XS.b XS.t) rfl))) pss_nil)
      (pss_one (ps_expr (pe_call GN hr3 (by rfl) gN kN bN .nil (passes_call (takes_of rfl rfl rfl rfl) fun _ _ _ _ z => z) (pa_cons (pe_lst (pa_cons (pe_ix ix_tup (pv 1) pe_int (fun _ _ => rfl)) pa_nil)) pa_nil))))))
      (pss_one (ps_for (passes_of rfl) rfl (pi_list (pv 0)) (pg_tup rfl (pgs_cons (pg_name (i := 2) scNeedPairs.nd rfl (.inl rfl)) (pgs_cons (pg_name (i := 3) scNeedPairs.nd rfl (.inl rfl)) pgs_nil)))
        (pss_one (ps_if (pt_not (pt_val (pe_call GF hr2 (by rfl) gF kF bF .nil pass0 (pa_cons (pv 3) (pa_cons (pv 2) pa_nil)))))
          (pss_one (ps_raise rfl (takes_of rfl rfl rfl rfl) (pmk_own PySem.F.excBase_ValueError XO.e XO.g XO.k (raises_own XO.b XO.t) rfl))) pss_nil)))), ?_⟩
  refine ⟨_, rfl, l, rfl, ⟨_, SqL.of hl⟩, for_list (xs := xs) (fun i σ H' => (∃ v, σ = [some (.ref l), v, none, none]) ∧ Same H H' ∧ (ks.take i).all (·.1) = true) ⟨⟨none, rfl⟩, fun _ _ e => e, rfl⟩ (fun i σ H' _ hP => SqL.of (hP.2.1 _ _ hl)) (fun i x σ H' hx hP => ?_) (fun σ H' hP => ?_)⟩
  · obtain ⟨⟨v, rfl⟩, sm, hb⟩ := hP
    obtain ⟨k, hk, hv⟩ := paired_at (prs_same sm hp) i x hx
    rcases hv with ⟨p, t, o, rfl, hp', ht, ho⟩ | ⟨e, ty, h1, h2⟩ | ⟨e, p, ys, rfl, hp', hl'⟩
    · refine ⟨_, rfl, _, _, _, _, true, rfl, .ty "tuple", .base (.tup hp'), kit_ty (by decide +kernel), true, rfl, iteF ?_⟩
      refine ⟨_, rfl, p, _, rfl, .inr (SqT.of hp'), rfl, _, rfl, iteF ?_⟩
      refine ⟨_, rfl, p, _, 0, _, rfl, rfl, SqT.of hp', atI_nat (j := 0) rfl, by show 1 ≤ sizeLine; decide, fun l2 hl2 => ?_⟩
      have u2 := same_upd (o := .lst [t]) hl2
      refine ⟨l2, [t], [k.1], rfl, SqL.of upd_same, .cons (ht.same u2) .nil, fun z => ?_, fun z => ?_⟩
      · have z' : k.1 = true := by
          have : (k.1 && true) = true := z
          rwa [Bool.and_true] at this
        exact ⟨⟨_, rfl⟩, sm.trans u2, all_take1 hb hk z'⟩
      · have z' : k.1 = false := by
          have : (k.1 && true) = false := z
          rwa [Bool.and_true] at this
        exact q1 (all_false1 hk z') _ (sm.trans u2)
    · exact ⟨_, rfl, _, _, _, _, false, rfl, .ty "tuple", h1, h2, false, rfl, iteT (iteT (q1 (all_false1 hk e) _ sm))⟩
    · refine ⟨_, rfl, _, _, _, _, true, rfl, .ty "tuple", .base (.tup hp'), kit_ty (by decide +kernel), true, rfl, iteF ?_⟩
      refine ⟨_, rfl, p, _, rfl, .inr (SqT.of hp'), rfl, _, rfl, iteNT (ine (fun z => hl' (by omega))) (q1 (all_false1 hk e) _ sm)⟩
  · obtain ⟨⟨v, rfl⟩, sm, hb⟩ := hP
    rw [paired_len hp, List.take_length] at hb
    refine ⟨_, rfl, l, rfl, ⟨_, SqL.of (sm _ _ hl)⟩, for_list (xs := xs) (fun i σ G => (∃ v2 v3, σ = [some (.ref l), v, v2, v3]) ∧ G = H' ∧ (ks.take i).all (·.2) = true) ⟨⟨none, none, rfl⟩, rfl, rfl⟩ (fun i σ G _ hP => by rw [hP.2.1]; exact SqL.of (sm _ _ hl)) (fun i x σ G hx hP => ?_) (fun σ G hP => ?_)⟩
    · obtain ⟨⟨v2, v3, rfl⟩, rfl, hb2⟩ := hP
      obtain ⟨k, hk, hv⟩ := paired_at (prs_same sm hp) i x hx
      have k1 : k.1 = true := List.all_eq_true.mp hb k (List.mem_of_getElem? hk)
      rcases hv with ⟨p, t, o, rfl, hp', ht, ho⟩ | ⟨e, _⟩ | ⟨e, _⟩
      · obtain ⟨n, rfl, ho'⟩ := ho k1
        refine ⟨p, _, rfl, SqT.of hp', rfl, _, _, rfl, _, _, rfl, rfl, _, rfl, _, rfl, n, o, k.2, rfl, ho', k.2, rfl, ?_⟩
        cases e2 : k.2 with
        | true => exact iteF ⟨⟨_, _, rfl⟩, rfl, all_take1 hb2 hk e2⟩
        | false => exact iteT (q2 hb (all_false1 hk e2) _ sm)
      · rw [k1] at e
        cases e
      · rw [k1] at e
        cases e
    · obtain ⟨_, rfl, hb2⟩ := hP
      rw [paired_len hp, List.take_length] at hb2
      exact q3 hb hb2 _ sm
end
end TB
namespace TC
set_option exponentiation.threshold 20000
open PySem PySem.Spec PyProof.Rows L2 TCA TCX
theorem PrsAt.snoc {H : Hp} {u : Addr} {x : Int × Int} (hu : H u = some (pairO x)) : ∀ {us : List Addr} {L : List (Int × Int)}, PrsAt H us L → PrsAt H (us ++ [u]) (L ++ [x])
  | [], [], _ => ⟨hu, trivial⟩
  | _ :: _, _ :: _, h => ⟨h.1, PrsAt.snoc hu h.2⟩
  | [], _ :: _, h => h.elim
  | _ :: _, [], h => h.elim
theorem PrsAt.upd {H : Hp} {l : Addr} {o : HO} (hl : ∀ x, H l ≠ some (.tup x)) : ∀ {us : List Addr} {L : List (Int × Int)}, PrsAt H us L → PrsAt (L2.upd H l o) us L
  | [], [], _ => trivial
  | u :: us, p :: ps, h => ⟨by
    rw [upd_ne fun z => hl _ (by rw [← z]; exact h.1)]
    exact h.1, PrsAt.upd hl h.2⟩
  | [], _ :: _, h => h.elim
  | _ :: _, [], h => h.elim
theorem PrsAt.len {H : Hp} : ∀ {us : List Addr} {L : List (Int × Int)}, PrsAt H us L → us.length = L.length
  | [], [], _ => rfl
  | _ :: _, _ :: _, h => congrArg Nat.succ (PrsAt.len h.2)
  | [], _ :: _, h => h.elim
  | _ :: _, [], h => h.elim
theorem ints_at {l : List Int} {i : Nat} {x : V} (h : (l.map V.int)[i]? = some x) : ∃ n : Int, l[i]? = some n ∧ x = .int n := by
  rw [List.getElem?_map] at h
  cases e : l[i]? with
  | none =>
    rw [e] at h
    cases h
  | some n =>
    rw [e] at h
    exact ⟨n, rfl, (Option.some.inj h).symm⟩
theorem take_atI {l : List Int} {i : Nat} {n : Int} (h : l[i]? = some n) : l.take (i + 1) = l.take i ++ [n] := by
  rw [List.take_add_one, h]
  rfl
end TC
namespace TC
open PySem PySem.Spec PyProof.Rows L2 TCA TCX
theorem dec_int (a b : Int) : decide (V.int a = V.int b) = decide (a = b) := by
  by_cases h : a = b
  · rw [h, decide_eq_true rfl, decide_eq_true rfl]
  · rw [decide_eq_false h, decide_eq_false fun z => h (V.int.inj z)]
theorem Same.but {H H' : Hp} {p : Addr} (s : Same H H') : SameBut p H H' := fun b o _ e => s b o e
theorem SameBut.trans {H H1 H2 : Hp} {p : Addr} (s : SameBut p H H1) (t : SameBut p H1 H2) : SameBut p H H2 := fun b o n e => t b o n (s b o n e)
theorem SameBut.refl {H : Hp} {p : Addr} : SameBut p H H := fun _ _ _ e => e
theorem SameBut.new {H H1 : Hp} {p q : Addr} {o : HO} (s : SameBut p H H1) (n : H1 q = none) : SameBut p H (upd H1 q o) := s.trans (Same.but (same_upd n))
theorem PenAt.same {H H' : Hp} {p c : Addr} {ms : List Int} {n : Int} (h : PenAt H p c ms n) (s : Same H H') : PenAt H' p c ms n := by
  obtain ⟨l, h1, h2, h3⟩ := h
  exact ⟨l, s _ _ h1, s _ _ h2, h3⟩
theorem PenAt.new {H : Hp} {p c q : Addr} {ms : List Int} {n : Int} {o : HO} (h : PenAt H p c ms n) (hq : H q = none) : PenAt (upd H q o) p c ms n := h.same (same_upd hq)
theorem PenAt.ne {H : Hp} {p c q : Addr} {ms : List Int} {n : Int} (h : PenAt H p c ms n) (hq : H q = none) : q ≠ p := by
  obtain ⟨l, h1, h2, h3⟩ := h
  exact fun e => by rw [e, h1] at hq; cases hq
end TC
namespace TC
open PySem PySem.Spec PyProof.Rows L2 TCA TCX
section
variable {P : Program} {w : World} {K : PySem.W.Frag} {mg : Str → Option Value} {base : Heap} {f fD : Addr} {fd fdD : FuncData}
/-! ### _law_size -/
def spSizeL : Sp := fun vs H Q _ => ∃ (p c : Addr) (ms : List Int) (n : Int), vs = [.ref p] ∧ PenAt H p c ms n ∧ 0 ≤ n ∧ n ≤ 900000 ∧
  ∀ (d n' : Int) H', 0 ≤ d → d ≤ 40 → n ≤ n' → n' ≤ n + 5 → PenAt H' p c ms n' → SameBut p H H' → Q (.int d) H'
theorem at4 {a b c d : V} {i : Int} (h0 : 0 ≤ i) (h1 : i < 4) : atI [a, b, c, d] i = some ([a, b, c, d].getD i.toNat a) := by
  have : i = 0 ∨ i = 1 ∨ i = 2 ∨ i = 3 := by omega
  rcases this with rfl | rfl | rfl | rfl <;> exact atI_nat rfl
/-! ### _law_fits -/
def fitsB (a b c : Int) : Bool := decide ((a + b + c) % 2 = 0) && (decide (c ≤ a + b) && (decide (a ≤ b + c) && decide (b ≤ a + c)))
def spFits : Sp := fun vs H Q _ => ∃ a b c : Int, vs = [.int a, .int b, .int c] ∧ Q (.bl (fitsB a b c)) H
theorem scFits : FnScope ["_law_a", "_law_b", "_law_c"] ["_law_a", "_law_b", "_law_c"] (defScope sFits) := ⟨rfl, rfl, rfl, by decide +kernel, rfl, by decide +kernel, by decide +kernel⟩
theorem ok_fits (F : FnP K "_law_fits" sFits f fd) : FnOk P w K mg base CX0 1 f fd ["_law_a", "_law_b", "_law_c"] spFits := by
  refine F.ok scFits (fun vs H Q E h => ?_) (fun cdv A outer s H vs Q E hr h => ?_)
  · obtain ⟨a, b, c, rfl, _⟩ := h
    rfl
  · obtain ⟨a, b, c, rfl, q⟩ := h
    refine ⟨_, PSs.nox (pss_one (ps_ret (pe_and (pe_cmpR op_eq (pe_op op_mod (pe_op op_add (pe_op op_add (pv 0) (pv 1)) (pv 2)) pe_int) pe_int (nomark _)) (pe_and (pe_cmpR op_le (pv 2) (pe_op op_add (pv 0) (pv 1)) (nomark _))
      (pe_and (pe_cmpR op_le (pv 0) (pe_op op_add (pv 1) (pv 2)) (nomark _)) (pe_one (pe_cmpR op_le (pv 1) (pe_op op_add (pv 0) (pv 2)) (nomark _)))))))), ?_⟩
    unfold fitsB at q
    refine ⟨_, rfl, _, rfl, a, b, rfl, rfl, _, rfl, _, c, rfl, rfl, _, 2, rfl, rfl, (show (0 : Int) < 2 by decide), rfl, _, rfl, ?_⟩
    rw [dec_int]
    refine iteB (fun h => ?_) fun h => by rw [h] at q; exact q
    rw [h] at q
    refine ⟨_, rfl, _, rfl, _, rfl, a, b, rfl, rfl, c, _, rfl, rfl, _, rfl, iteB (fun h => ?_) fun h => by rw [h] at q; exact q⟩
    rw [h] at q
    refine ⟨_, rfl, _, rfl, _, rfl, b, c, rfl, rfl, a, _, rfl, rfl, _, rfl, iteB (fun h => ?_) fun h => by rw [h] at q; exact q⟩
    rw [h] at q
    exact ⟨_, rfl, _, rfl, _, rfl, a, c, rfl, rfl, b, _, rfl, rfl, q⟩
end
end TC
namespace TC
open PySem PySem.Spec PyProof.Rows L2 TCA TCX
section
variable {P : Program} {w : World} {K : PySem.W.Frag} {mg : Str → Option Value} {base : Heap} {f fD fF : Addr} {fd fdD fdF : FuncData}
/-! ### _law_third -/
/-- the whole numbers from 0 to k - 1 that fit -/
def fitL (a b : Int) (k : Nat) : List Int := ((List.range k).map fun i => (0 : Int) + (i : Nat)).filter (fitsB a b)
theorem fitL_succ (a b : Int) (k : Nat) : fitL a b (k + 1) = fitL a b k ++ (if fitsB a b (0 + (k : Nat)) = true then [0 + ((k : Nat) : Int)] else []) := by
  unfold fitL
  rw [List.range_succ, List.map_append, List.filter_append]
  congr 1
  show List.filter (fitsB a b) [0 + ((k : Nat) : Int)] = _
  by_cases h : fitsB a b (0 + (k : Nat)) = true
  · rw [if_pos h, List.filter_cons_of_pos h]
    rfl
  · rw [if_neg h, List.filter_cons_of_neg h]
    rfl
theorem fitL_len (a b : Int) (k : Nat) : (fitL a b k).length ≤ k := by
  unfold fitL
  refine Nat.le_trans (List.length_filter_le _ _) ?_
  rw [List.length_map, List.length_range]
  exact Nat.le_refl _
theorem fitL_mem {a b : Int} {k : Nat} {c : Int} : c ∈ fitL a b k ↔ 0 ≤ c ∧ c < k ∧ fitsB a b c = true := by
  unfold fitL
  rw [List.mem_filter, List.mem_map]
  constructor
  · rintro ⟨⟨i, hi, rfl⟩, h⟩
    have := List.mem_range.mp hi
    exact ⟨by omega, by omega, h⟩
  · rintro ⟨h0, h1, h2⟩
    exact ⟨⟨c.toNat, List.mem_range.mpr (by omega), by omega⟩, h2⟩
def thirdL (a b h : Int) : List Int := fitL a b (h + 1).toNat ++ (if (if a - b < 0 then -(a - b) else a - b) > h then [h] else [])
theorem thirdL_ne {a b h : Int} (ha : 0 ≤ a) (hb : 0 ≤ b) (hh : 0 ≤ h) : 0 < (thirdL a b h).length := by
  unfold thirdL
  by_cases z : (if a - b < 0 then -(a - b) else a - b) > h
  · rw [if_pos z, List.length_append]
    show 0 < _ + 1
    omega
  · rw [if_neg z, List.append_nil]
    refine List.length_pos_of_mem (a := if a - b < 0 then -(a - b) else a - b) (fitL_mem.mpr ⟨?_, ?_, ?_⟩)
    · split <;> omega
    · split at z <;> split <;> omega
    · unfold fitsB
      have e : ∀ c : Int, (c = a - b ∨ c = b - a) → 0 ≤ c → (decide ((a + b + c) % 2 = 0) && (decide (c ≤ a + b) && (decide (a ≤ b + c) && decide (b ≤ a + c)))) = true := fun c hc h0 => by
        rw [decide_eq_true (by omega), decide_eq_true (by omega), decide_eq_true (by omega), decide_eq_true (by omega)]
        rfl
      split
      · exact e _ (by omega) (by omega)
      · exact e _ (by omega) (by omega)
def spThird : Sp := fun vs H Q _ => ∃ (p c : Addr) (ms : List Int) (n a b h : Int), vs = [.ref p, .int a, .int b, .int h] ∧ PenAt H p c ms n ∧ 0 ≤ n ∧ n ≤ 900000 ∧ 0 ≤ a ∧ 0 ≤ b ∧ 0 ≤ h ∧ h ≤ 1000 ∧
  ∀ (d n' : Int) H', d ∈ thirdL a b h → n ≤ n' → n' ≤ n + 1 → PenAt H' p c ms n' → SameBut p H H' → Q (.int d) H'
abbrev nThird : List Str := ["_law_pen_here", "_law_a", "_law_b", "_law_high", "_law_some", "_law_c"]
theorem scThird : FnScope nThird ["_law_pen_here", "_law_a", "_law_b", "_law_high"] (defScope sThird) := ⟨rfl, rfl, rfl, by decide +kernel, rfl, by decide +kernel, by decide +kernel⟩
theorem ok_third (F : FnP K "_law_third" sThird f fd) (GD : FnOk P w K mg base CX0 1 fD fdD ["_law_pen_here", "_law_many"] spDraw) (bD : L2.Binds K fdD ["_law_pen_here", "_law_many"] []) (kD : PySem.W.keepIn K (.ref fD) = true) (gD : mg "_law_draw" = some (.ref fD))
    (GF : FnOk P w K mg base CX0 1 fF fdF ["_law_a", "_law_b", "_law_c"] spFits) (bF : L2.Binds K fdF ["_law_a", "_law_b", "_law_c"] []) (kF : PySem.W.keepIn K (.ref fF) = true) (gF : mg "_law_fits" = some (.ref fF))
    (gr : mg "range" = none) (gi : mg "int" = none) (ga : mg "abs" = none) (gl : mg "len" = none) :
    FnOk P w K mg base CX0 2 f fd ["_law_pen_here", "_law_a", "_law_b", "_law_high"] spThird := by
  refine F.ok scThird (fun vs H Q E h => ?_) (fun cdv A outer s H vs Q E hr h => ?_)
  · obtain ⟨p, c, ms, n, a, b, h, rfl, _⟩ := h
    rfl
  · obtain ⟨p, c, ms, n, a, b, h, rfl, hp, n0, n1, a0, b0, h0, h1, q⟩ := h
    refine ⟨_, PSs.nox (pss_cons (ps_set (i := 4) scThird.nd rfl (.inl rfl) (pe_op op_cat
        (pe_lc (own := [("_law_c", 5)]) (g := gName 5) (tt := tB (tCall spFits [] E0 (tCons (tVar 1) (tCons (tVar 2) (tCons (tVar 5) tNil))))) (te := tVar 5) rfl scThird.nd (pi_range1 rfl gr (pa_cons (pe_op op_add (pv 3) pe_int) pa_nil))
          (blkOk_by (N := nThird) (sc := defScope sThird) (by decide +kernel)) (fun _ _ _ _ _ => pg_name (i := 5) scThird.nd rfl (.inl rfl)) (fun _ _ _ _ _ => pts_one (pt_val (pe_call GF hr (by rfl) gF kF bF .nil pass0 (pa_cons (pv 1) (pa_cons (pv 2) (pa_cons (pv 5) pa_nil)))))) (fun _ _ _ _ _ => pv 5))
        (pe_op op_rep (pe_lst (pa_cons (pv 3) pa_nil)) (pe_callTy call_int1 (by rfl) gi (by decide +kernel) (pa_cons (pe_cmpR op_gt (pe_callB call_abs (by rfl) ga (by decide +kernel) (pa_cons (pe_op op_sub (pv 1) (pv 2)) pa_nil)) (pv 3) (nomark _)) pa_nil)))))
      (pss_one (ps_ret (pe_ix ix_list (pv 4) (pe_call GD hr (by rfl) gD kD bD .nil pass0 (pa_cons (pv 0) (pa_cons (pe_callB call_len_seq (by rfl) gl PySem.boot_len (pa_cons (pv 4) pa_nil)) pa_nil))) (fun _ _ => rfl))))), ?_⟩
    refine ⟨_, rfl, h, 1, rfl, rfl, h + 1, rfl, by omega, by omega, fun D hD => lc_range (lo := 0) (n := (h + 1).toNat) (fun i H' => Same H H' ∧ H' D = some (.lst ((fitL a b i).map V.int))) ⟨same_upd hD, upd_same⟩ (fun i H' hi hP => ?_) (fun H' hP => ?_)⟩
    · obtain ⟨sm, hd⟩ := hP
      refine ⟨rfl, ?_⟩
      refine ⟨_, rfl, _, rfl, _, rfl, a, b, _, rfl, _, rfl, ?_⟩
      refine iteB (fun z => ?_) fun z => ?_
      · refine ⟨_, rfl, _, hd, ?_, ?_, ?_⟩
        · have := fitL_len a b i
          rw [List.length_map, sizeLine_eq]
          omega
        · intro b' o e
          rw [upd_ne (ne_of_none e hD)]
          exact sm b' o e
        · rw [upd_same, fitL_succ, if_pos z, List.map_append]
          rfl
      · refine ⟨sm, ?_⟩
        rw [hd, fitL_succ, if_neg (by rw [z]; exact Bool.false_ne_true), List.append_nil]
    · obtain ⟨sm, hd⟩ := hP
      refine ⟨_, rfl, by show 1 ≤ sizeLine; decide, fun l hl => ?_⟩
      have s1 := same_upd (o := .lst [.int h]) hl
      obtain ⟨gap, eg⟩ : ∃ g : Int, (if a - b < 0 then -(a - b) else a - b) = g := ⟨_, rfl⟩
      refine ⟨_, rfl, _, rfl, a, b, rfl, rfl, a - b, rfl, _, rfl, _, h, rfl, rfl, .inr ⟨_, rfl, ?_⟩⟩
      rw [eg]
      obtain ⟨k, ek⟩ : ∃ k : Int, (if decide (gap > h) = true then (1 : Int) else 0) = k := ⟨_, rfl⟩
      rw [ek]
      have k01 : k = 0 ∨ k = 1 := by
        rw [← ek]
        split <;> omega
      refine ⟨l, k, _, rfl, rfl, upd_same, by omega, by omega, ?_, fun l2 hl2 => ?_⟩
      · rw [sizeLine_eq]
        show 1 * k.toNat ≤ _
        omega
      obtain ⟨tail, et⟩ : ∃ t : List Int, (if gap > h then [h] else []) = t := ⟨_, rfl⟩
      have er : (List.replicate k.toNat ([V.int h] : List V)).flatten = tail.map V.int := by
        rw [← ek, ← et]
        by_cases z : gap > h
        · rw [if_pos (decide_eq_true z), if_pos z]
          rfl
        · rw [if_neg (by rw [decide_eq_false z]; exact Bool.false_ne_true), if_neg z]
          rfl
      have tl : tail.length ≤ 1 := by
        rw [← et]
        split <;> simp
      have s2 := same_upd (o := .lst ((List.replicate k.toNat ([V.int h] : List V)).flatten)) hl2
      refine ⟨D, l2, _, _, rfl, rfl, s2 _ _ (s1 _ _ hd), upd_same, ?_, fun l3 hl3 => ?_⟩
      · have := fitL_len a b (h + 1).toNat
        rw [er, List.length_map, List.length_map, sizeLine_eq]
        omega
      have e3 : ((fitL a b (h + 1).toNat).map V.int) ++ (List.replicate k.toNat ([V.int h] : List V)).flatten = (thirdL a b h).map V.int := by
        rw [er, ← List.map_append, ← et, ← eg]
        rfl
      rw [e3]
      have s3 := same_upd (o := .lst ((thirdL a b h).map V.int)) hl3
      have sA : Same H _ := (sm.trans (s1.trans s2)).trans s3
      have p3 := hp.same sA
      have tn := thirdL_ne a0 b0 h0
      have tlen : (thirdL a b h).length ≤ 1002 := by
        have := fitL_len a b (h + 1).toNat
        unfold thirdL
        rw [List.length_append, eg, et]
        omega
      refine ⟨_, rfl, _, rfl, _, rfl, l3, _, rfl, .inl (SqL.of upd_same), p, c, ms, n, _, rfl, p3, n0, by omega, ?_, ?_, fun d n' H5 d0 d1 e0 e1 p5 s5 => ?_⟩
      · rw [List.length_map]
        omega
      · rw [List.length_map]
        exact Int.lt_of_le_of_lt (show ((thirdL a b h).length : Int) ≤ 1002 by omega) (by decide)
      · rw [List.length_map] at d1
        have hL := s5 _ _ (PenAt.ne (hp.same (sm.trans (s1.trans s2))) hl3) upd_same
        refine ⟨l3, _, d, .int ((thirdL a b h)[d.toNat]'(by omega)), rfl, rfl, SqL.of hL, at_of (j := d.toNat) (by omega) (by rw [List.getElem?_map, List.getElem?_eq_getElem (by omega)]; rfl), ?_⟩
        exact q _ n' _ (List.getElem_mem _) e0 e1 p5 (SameBut.trans (Same.but sA) s5)
end
end TC
namespace TC
open PySem PySem.Spec PyProof.Rows L2 TCA TCX
theorem fits_iff {a b c : Int} : fitsB a b c = true ↔ (a + b + c) % 2 = 0 ∧ c ≤ a + b ∧ a ≤ b + c ∧ b ≤ a + c := by
  unfold fitsB
  simp only [Bool.and_eq_true, decide_eq_true_eq]
theorem third_fits {a b h d : Int} (a0 : 0 ≤ a) (a1 : a ≤ h) (b0 : 0 ≤ b) (b1 : b ≤ h) (hd : d ∈ thirdL a b h) : 0 ≤ d ∧ d ≤ h ∧ fitsB a b d = true := by
  unfold thirdL at hd
  have n : ¬ (if a - b < 0 then -(a - b) else a - b) > h := by
    split <;> omega
  rw [if_neg n, List.append_nil] at hd
  obtain ⟨h0, h1, h2⟩ := fitL_mem.mp hd
  exact ⟨h0, by omega, h2⟩
theorem lt_1000 {m : Int} (h : m ≤ 1000) : m < 2 ^ 1000 := Int.lt_of_le_of_lt h (by decide +kernel)
section
variable {P : Program} {w : World} {K : PySem.W.Frag} {mg : Str → Option Value} {base : Heap} {f fD fT fZ fP fS : Addr} {fd fdD fdT fdZ fdP fdS : FuncData}
/-! ### _law_sizes -/
def spSizesL : Sp := fun vs H Q _ => ∃ (p c : Addr) (ms : List Int) (n h : Int), vs = [.ref p, .int h] ∧ PenAt H p c ms n ∧ 0 ≤ n ∧ n ≤ 800000 ∧ 0 ≤ h ∧ h ≤ 40 ∧
  ∀ (t : Addr) (a b d n' : Int) H', 0 ≤ a → a ≤ h → 0 ≤ b → b ≤ h → 0 ≤ d → d ≤ h → fitsB a b d = true → H' t = some (.tup [.int a, .int b, .int d]) → n ≤ n' → n' ≤ n + 3 → PenAt H' p c ms n' → SameBut p H H' → Q (.ref t) H'
abbrev nSizesL : List Str := ["_law_pen_here", "_law_high", "_law_a", "_law_b"]
theorem scSizesL : FnScope nSizesL ["_law_pen_here", "_law_high"] (defScope sSizesL) := ⟨rfl, rfl, rfl, by decide +kernel, rfl, by decide +kernel, by decide +kernel⟩
theorem ok_sizesL (F : FnP K "_law_sizes" sSizesL f fd) (GD : FnOk P w K mg base CX0 1 fD fdD ["_law_pen_here", "_law_many"] spDraw) (bD : L2.Binds K fdD ["_law_pen_here", "_law_many"] []) (kD : PySem.W.keepIn K (.ref fD) = true) (gD : mg "_law_draw" = some (.ref fD))
    (GT : FnOk P w K mg base CX0 2 fT fdT ["_law_pen_here", "_law_a", "_law_b", "_law_high"] spThird) (bT : L2.Binds K fdT ["_law_pen_here", "_law_a", "_law_b", "_law_high"] []) (kT : PySem.W.keepIn K (.ref fT) = true) (gT : mg "_law_third" = some (.ref fT)) :
    FnOk P w K mg base CX0 3 f fd ["_law_pen_here", "_law_high"] spSizesL := by
  refine F.ok scSizesL (fun vs H Q E h => ?_) (fun cdv A outer s H vs Q E hr h => ?_)
  · obtain ⟨_, _, _, _, _, rfl, _⟩ := h
    rfl
  obtain ⟨p, c, ms, n, h, rfl, hp, n0, n1, h0, h1, q⟩ := h
  have hr1 := hr.mono (j := 1) (by decide)
  have hr2 := hr.mono (j := 2) (by decide)
  refine ⟨_, PSs.nox (pss_cons (ps_set (i := 2) scSizesL.nd rfl (.inl rfl) (pe_call GD hr1 (by rfl) gD kD bD .nil pass0 (pa_cons (pv 0) (pa_cons (pe_op op_add (pv 1) pe_int) pa_nil))))
      (pss_cons (ps_set (i := 3) scSizesL.nd rfl (.inl rfl) (pe_call GD hr1 (by rfl) gD kD bD .nil pass0 (pa_cons (pv 0) (pa_cons (pe_op op_add (pv 1) pe_int) pa_nil))))
      (pss_one (ps_ret (pe_tup (pa_cons (pv 2) (pa_cons (pv 3) (pa_cons (pe_call GT hr2 (by rfl) gT kT bT .nil pass0 (pa_cons (pv 0) (pa_cons (pv 2) (pa_cons (pv 3) (pa_cons (pv 1) pa_nil))))) pa_nil)))))))), ?_⟩
  refine ⟨_, rfl, _, rfl, h, 1, rfl, rfl, p, c, ms, n, h + 1, rfl, hp, n0, by omega, by omega, lt_1000 (by omega), fun a n1' H1 a0 a1 e0 e1 p1 s1 => ?_⟩
  refine ⟨_, rfl, _, rfl, h, 1, rfl, rfl, p, c, ms, n1', h + 1, rfl, p1, by omega, by omega, by omega, lt_1000 (by omega), fun b n2 H2 b0 b1 e2 e3 p2 s2 => ?_⟩
  refine ⟨_, rfl, _, rfl, _, rfl, _, rfl, _, rfl, _, rfl, p, c, ms, n2, a, b, h, rfl, p2, by omega, by omega, a0, b0, h0, by omega, fun d n3 H3 hd e4 e5 p3 s3 => ?_⟩
  obtain ⟨d0, d1, df⟩ := third_fits a0 (by omega) b0 (by omega) hd
  refine ⟨by show 3 ≤ sizeLine; decide, fun t ht => ?_⟩
  exact q t a b d n3 _ a0 (by omega) b0 (by omega) d0 d1 df upd_same (by omega) (by omega) (p3.new ht) (((s1.trans s2).trans s3).new ht)
/-! ### _law_pairs -/
/-- three pairs at t -/
def ThreeAt (H : Hp) (t : Addr) (x y z : Int × Int) : Prop := ∃ q1 q2 q3 : Addr, H t = some (.tup [.ref q1, .ref q2, .ref q3]) ∧ H q1 = some (pairO x) ∧ H q2 = some (pairO y) ∧ H q3 = some (pairO z)
def spPairs : Sp := fun vs H Q _ => ∃ (p c t : Addr) (ms : List Int) (n a b d : Int), vs = [.ref p, .ref t] ∧ PenAt H p c ms n ∧ 0 ≤ n ∧ n ≤ 800000 ∧ H t = some (.tup [.int a, .int b, .int d]) ∧ 0 ≤ a ∧ a ≤ 40 ∧ 0 ≤ b ∧ b ≤ 40 ∧ 0 ≤ d ∧ d ≤ 40 ∧ fitsB a b d = true ∧
  ∀ (t' : Addr) (u v w n' : Int) H', PairP a u → PairP b v → PairP d w → u + v = w → ThreeAt H' t' (a, u) (b, v) (d, w) → n ≤ n' → n' ≤ n + 2 → PenAt H' p c ms n' → SameBut p H H' → Q (.ref t') H'
abbrev nPairs : List Str := ["_law_pen_here", "_law_sizes_here", "_law_a", "_law_b", "_law_c", "_law_w", "_law_low", "_law_high", "_law_u"]
theorem scPairs : FnScope nPairs ["_law_pen_here", "_law_sizes_here"] (defScope sPairs) := ⟨rfl, rfl, rfl, by decide +kernel, rfl, by decide +kernel, by decide +kernel⟩
theorem ok_pairs (F : FnP K "_law_pairs" sPairs f fd) (GD : FnOk P w K mg base CX0 1 fD fdD ["_law_pen_here", "_law_many"] spDraw) (bD : L2.Binds K fdD ["_law_pen_here", "_law_many"] []) (kD : PySem.W.keepIn K (.ref fD) = true) (gD : mg "_law_draw" = some (.ref fD)) (gmax : mg "max" = none) (gmin : mg "min" = none) :
    FnOk P w K mg base CX0 2 f fd ["_law_pen_here", "_law_sizes_here"] spPairs := by
  refine F.ok scPairs (fun vs H Q E h => ?_) (fun cdv A outer s H vs Q E hr h => ?_)
  · obtain ⟨_, _, _, _, _, _, _, _, rfl, _⟩ := h
    rfl
  obtain ⟨p, c, t, ms, n, a, b, d, rfl, hp, n0, n1, ht, a0, a1, b0, b1, d0, d1, hf, q⟩ := h
  have hr1 := hr.mono (j := 1) (by decide)
  obtain ⟨f1, f2, f3, f4⟩ := fits_iff.mp hf
  refine ⟨_, PSs.nox (pss_cons (ps_asg (pv 1) (pg_tup rfl (pgs_cons (pg_name (i := 2) scPairs.nd rfl (.inl rfl)) (pgs_cons (pg_name (i := 3) scPairs.nd rfl (.inl rfl)) (pgs_cons (pg_name (i := 4) scPairs.nd rfl (.inl rfl)) pgs_nil)))))
      (C8.pss_cut (ps_set (i := 5) scPairs.nd rfl (.inl rfl) (pe_op op_sub (pe_op op_mul pe_int (pe_call GD hr1 (by rfl) gD kD bD .nil pass0 (pa_cons (pv 0) (pa_cons (pe_op op_add (pv 4) pe_int) pa_nil)))) (pv 4)))
      (C8.pss_cut (ps_par (i := 6) (j := 7) (by rfl) scPairs.nd rfl rfl (by decide) rfl rfl (pa_cons (pe_callB (call_max2 rfl) (by rfl) gmax (by decide +kernel) (pa_cons (pe_op op_sub pe_int (pv 2)) (pa_cons (pe_op op_sub (pv 5) (pv 3)) pa_nil))) (pa_cons (pe_callB (call_min2 rfl) (by rfl) gmin (by decide +kernel) (pa_cons (pv 2) (pa_cons (pe_op op_add (pv 5) (pv 3)) pa_nil))) pa_nil)) (by rfl))
      (pss_cons (ps_set (i := 8) scPairs.nd rfl (.inl rfl) (pe_op op_add (pv 6) (pe_op op_mul pe_int (pe_call GD hr1 (by rfl) gD kD bD .nil pass0 (pa_cons (pv 0) (pa_cons (pe_op op_add (pe_op op_fdiv (pe_op op_sub (pv 7) (pv 6)) pe_int) pe_int) pa_nil))))))
      (pss_one (ps_ret (pe_tup (pa_cons (pe_tup (pa_cons (pv 2) (pa_cons (pv 8) pa_nil))) (pa_cons (pe_tup (pa_cons (pv 3) (pa_cons (pe_op op_sub (pv 5) (pv 8)) pa_nil))) (pa_cons (pe_tup (pa_cons (pv 4) (pa_cons (pv 5) pa_nil))) pa_nil)))))))))), ?_⟩
  refine ⟨_, rfl, t, _, rfl, SqT.of ht, rfl, _, _, rfl, _, _, rfl, _, _, rfl, rfl, ?_⟩
  refine ⟨fun σ H' => ∃ w n' : Int, σ = [some (.ref p), some (.ref t), some (.int a), some (.int b), some (.int d), some (.int w), none, none, none] ∧ -d ≤ w ∧ w ≤ d ∧ (d - w) % 2 = 0 ∧ n ≤ n' ∧ n' ≤ n + 1 ∧ PenAt H' p c ms n' ∧ SameBut p H H', ?_, fun σ H1 hM => ?_⟩
  · refine ⟨_, rfl, _, rfl, d, 1, rfl, rfl, p, c, ms, n, d + 1, rfl, hp, n0, by omega, by omega, lt_1000 (by omega), fun e n1' H1 e0 e1 x0 x1 p1 s1 => ?_⟩
    exact ⟨2, e, rfl, rfl, .inl ⟨by decide, by decide⟩, _, rfl, 2 * e, d, rfl, rfl, 2 * e - d, n1', rfl, by omega, by omega, by omega, x0, x1, p1, s1⟩
  obtain ⟨w, n1', rfl, w0, w1, w2, x0, x1, p1, s1⟩ := hM
  refine ⟨fun σ H' => ∃ lo hi : Int, σ = [some (.ref p), some (.ref t), some (.int a), some (.int b), some (.int d), some (.int w), some (.int lo), some (.int hi), none] ∧ H' = H1 ∧ (lo = -a ∨ lo = w - b) ∧ -a ≤ lo ∧ w - b ≤ lo ∧ (hi = a ∨ hi = w + b) ∧ hi ≤ a ∧ hi ≤ w + b, ?_, fun σ H2 hM => ?_⟩
  · refine ⟨_, rfl, 0, a, rfl, rfl, _, rfl, _, rfl, w, b, rfl, rfl, 0 - a, w - b, rfl, _, rfl, _, rfl, _, rfl, w, b, rfl, rfl, a, w + b, rfl, _, _, rfl, ?_⟩
    refine ⟨if w - b > 0 - a then w - b else 0 - a, if w + b < a then w + b else a, rfl, rfl, ?_, ?_, ?_, ?_, ?_, ?_⟩ <;> split <;> omega
  obtain ⟨lo, hi, rfl, rfl, l1, l2, l3, l4, l5, l6⟩ := hM
  refine ⟨_, rfl, _, rfl, _, rfl, _, rfl, hi, lo, rfl, rfl, hi - lo, 2, rfl, rfl, ⟨by decide, by decide⟩, (hi - lo) / 2, 1, rfl, rfl, p, c, ms, n1', (hi - lo) / 2 + 1, rfl, p1, by omega, by omega, by omega, lt_1000 (by omega), fun g n2 H3 g0 g1 x2 x3 p2 s2 => ?_⟩
  refine ⟨2, g, rfl, rfl, .inl ⟨by decide, by decide⟩, lo, 2 * g, rfl, rfl, ?_⟩
  refine ⟨_, rfl, _, rfl, by show 2 ≤ sizeLine; decide, fun q1 hq1 => ?_⟩
  refine ⟨_, rfl, _, rfl, _, rfl, w, lo + 2 * g, rfl, rfl, by show 2 ≤ sizeLine; decide, fun q2 hq2 => ?_⟩
  refine ⟨_, rfl, _, rfl, by show 2 ≤ sizeLine; decide, fun q3 hq3 => ?_⟩
  refine ⟨by show 3 ≤ sizeLine; decide, fun t' ht' => ?_⟩
  have z1 := same_upd (o := .tup [.int a, .int (lo + 2 * g)]) hq1
  have z2 := same_upd (o := .tup [.int b, .int (w - (lo + 2 * g))]) hq2
  have z3 := same_upd (o := .tup [.int d, .int w]) hq3
  have z4 := same_upd (o := .tup [.ref q1, .ref q2, .ref q3]) ht'
  refine q t' (lo + 2 * g) (w - (lo + 2 * g)) w n2 _ ⟨a0, a1, by omega, by omega, by omega⟩ ⟨b0, b1, by omega, by omega, by omega⟩ ⟨d0, d1, by omega, by omega, by omega⟩ (by omega) ⟨q1, q2, q3, upd_same, z4 _ _ (z3 _ _ (z2 _ _ upd_same)), z4 _ _ (z3 _ _ upd_same), z4 _ _ upd_same⟩ (by omega) (by omega) (p2.same (((z1.trans z2).trans z3).trans z4)) ((s1.trans s2).trans (Same.but (((z1.trans z2).trans z3).trans z4)))
end
end TC
namespace TCA
open PySem PyProof.Rows PySem.W
/-! ### K17X: the 72 ways of a square, both ways (pure) -/
inductive Stp | r (i j : Nat) | c (i j : Nat) | t
  deriving DecidableEq
def swapI (i j k : Nat) : Nat := if k = i then j else if k = j then i else k
def exch {α : Type} (s : Stp) (S : Nat → Nat → α) : Nat → Nat → α := match s with
  | .r i j => fun x y => S (swapI i j x) y
  | .c i j => fun x y => S x (swapI i j y)
  | .t => fun x y => S y x
def behind {α : Type} (ss : List Stp) (S : Nat → Nat → α) : Nat → Nat → α := ss.foldl (fun S s => exch s S) S
theorem behind_snoc {α : Type} (ss : List Stp) (s : Stp) (S : Nat → Nat → α) : behind (ss ++ [s]) S = exch s (behind ss S) := by
  unfold behind
  rw [List.foldl_append]
  rfl
theorem exch_map {α β : Type} (g : α → β) (s : Stp) (S : Nat → Nat → α) : exch s (fun x y => g (S x y)) = fun x y => g (exch s S x y) := by
  cases s <;> rfl
theorem behind_map {α β : Type} (g : α → β) : ∀ (ss : List Stp) (S : Nat → Nat → α), behind ss (fun x y => g (S x y)) = fun x y => g (behind ss S x y)
  | [], _ => rfl
  | s :: ss, S => by
    show behind ss (exch s fun x y => g (S x y)) = fun x y => g (behind ss (exch s S) x y)
    rw [exch_map, behind_map g ss]
def nine {α : Type} (S : Nat → Nat → α) : List α := [S 0 0, S 0 1, S 0 2, S 1 0, S 1 1, S 1 2, S 2 0, S 2 1, S 2 2]
theorem nine_map {α β : Type} (g : α → β) (S : Nat → Nat → α) : nine (fun x y => g (S x y)) = (nine S).map g := rfl
def idx (i j : Nat) : Nat := 3 * i + j
def isEx : Stp → Bool
  | .t => false
  | _ => true
def cntX (ss : List Stp) : Nat := (ss.filter isEx).length
def ordL : List (List (Nat × Nat)) := [[], [(0, 1)], [(0, 2)], [(1, 2)], [(0, 1), (0, 2)], [(0, 1), (1, 2)]]
def rowsS (o : List (Nat × Nat)) : List Stp := o.map fun p => .r p.1 p.2
def colsS (o : List (Nat × Nat)) : List Stp := o.map fun p => .c p.1 p.2
def turnsL : List (List Stp) := [[], [.t]]
def waysL : List (List Stp) := turnsL.flatMap fun tu => ordL.flatMap fun o => ordL.map fun o' => rowsS o ++ colsS o' ++ tu
def lordL : List (List Nat × Nat) := [([0, 1, 2], 0), ([1, 0, 2], 1), ([0, 2, 1], 1), ([2, 1, 0], 1), ([1, 2, 0], 0), ([2, 0, 1], 0)]
def lawF {α : Type} (f : Bool) (l c : List Nat) (S : Nat → Nat → α) : Nat → Nat → α := fun x y => if f then S (c.getD y 0) (l.getD x 0) else S (l.getD x 0) (c.getD y 0)
def formsL : List (Bool × (List Nat × Nat) × (List Nat × Nat)) := [false, true].flatMap fun f => lordL.flatMap fun l => lordL.map fun c => (f, l, c)
def wayI (w : List Stp) : List Nat × Nat := (nine (behind w idx), cntX w % 2)
def formI (z : Bool × (List Nat × Nat) × (List Nat × Nat)) : List Nat × Nat := (nine (lawF z.1 z.2.1.1 z.2.2.1 idx), (z.2.1.2 + z.2.2.2) % 2)
theorem ways_perm : (waysL.map wayI).Perm (formsL.map formI) := by decide +kernel
def mk17 (tot : Int) (k : Nat) : Int := if tot * (k : Int) % 2 = 1 then -1 else 1
theorem mk_mod (tot : Int) (k : Nat) : mk17 tot (k % 2) = mk17 tot k := by
  unfold mk17
  have e : tot * ((k % 2 : Nat) : Int) % 2 = tot * (k : Int) % 2 := by
    rw [Int.mul_emod, Int.mul_emod tot (k : Int)]
    congr 2
    omega
  rw [e]
theorem mk_one (tot : Int) (k : Nat) : mk17 tot k = 1 ∨ mk17 tot k = -1 := by
  unfold mk17
  split
  · exact .inr rfl
  · exact .inl rfl
/-- a form's numbers and its mark -/
abbrev Frm := List Int × Int
def outF (g : Nat → Int) (z : List Nat × Nat) : Frm := (z.1.map g, mk17 (g 0 + g 1 + g 2) z.2)
/-! order of lists of numbers -/
def ltL : List Int → List Int → Bool
  | x :: xs, y :: ys => if x = y then ltL xs ys else decide (x < y)
  | _, _ => false
theorem ltL_same : ∀ {a b : List Int}, a.length = b.length → ltL a b = false → ltL b a = false → a = b
  | [], [], _, _, _ => rfl
  | x :: xs, y :: ys, l, h1, h2 => by
    unfold ltL at h1 h2
    by_cases e : x = y
    · rw [if_pos e] at h1
      rw [if_pos e.symm] at h2
      rw [e, ltL_same (Nat.succ.inj l) h1 h2]
    · rw [if_neg e] at h1
      rw [if_neg fun z => e z.symm] at h2
      have a1 := of_decide_eq_false h1
      have a2 := of_decide_eq_false h2
      omega
theorem ltL_irr : ∀ a : List Int, ltL a a = false
  | [] => rfl
  | x :: xs => by
    unfold ltL
    rw [if_pos rfl]
    exact ltL_irr xs
theorem ltL_trans : ∀ {a b c : List Int}, a.length = b.length → b.length = c.length → ltL a b = false → ltL b c = false → ltL a c = false
  | [], _, _, _, _, _, _ => by unfold ltL; rfl
  | x :: xs, y :: ys, z :: zs, l1, l2, h1, h2 => by
    unfold ltL at h1 h2 ⊢
    by_cases e1 : x = y
    · by_cases e2 : y = z
      · rw [if_pos e1] at h1
        rw [if_pos e2] at h2
        rw [if_pos (e1.trans e2)]
        exact ltL_trans (Nat.succ.inj l1) (Nat.succ.inj l2) h1 h2
      · rw [if_neg e2] at h2
        rw [if_neg fun z => e2 (by omega)]
        have := of_decide_eq_false h2
        exact decide_eq_false (by omega)
    · rw [if_neg e1] at h1
      have a1 := of_decide_eq_false h1
      by_cases e2 : y = z
      · rw [if_neg (by omega)]
        exact decide_eq_false (by omega)
      · rw [if_neg e2] at h2
        have a2 := of_decide_eq_false h2
        rw [if_neg (by omega)]
        exact decide_eq_false (by omega)
/-- the least form and its mark, 0 where it has both -/
structure Lst (P : List Frm) (X : List Int) (m : Int) : Prop where
  mem : ∃ y ∈ P, y.1 = X
  low : ∀ y ∈ P, ltL y.1 X = false
  mark : m = if (X, (1 : Int)) ∈ P ∧ (X, (-1 : Int)) ∈ P then 0 else if (X, (1 : Int)) ∈ P then 1 else -1
theorem Lst.uniq {P P' : List Frm} {X X' : List Int} {m m' : Int} (h : Lst P X m) (h' : Lst P' X' m') (p : P.Perm P') (len : ∀ y ∈ P, y.1.length = 9) : X = X' ∧ m = m' := by
  obtain ⟨y, hy, ey⟩ := h.mem
  obtain ⟨z, hz, ez⟩ := h'.mem
  have l1 := len y hy
  have l2 := len z (p.mem_iff.mpr hz)
  have e : X = X' := by
    rw [← ey, ← ez]
    refine ltL_same (l1.trans l2.symm) ?_ ?_
    · rw [ez]
      exact h'.low y (p.mem_iff.mp hy)
    · rw [ey]
      exact h.low z (p.mem_iff.mpr hz)
  refine ⟨e, ?_⟩
  rw [h.mark, h'.mark, ← e]
  have q : ∀ k : Int, (X, k) ∈ P ↔ (X, k) ∈ P' := fun k => p.mem_iff
  by_cases h1 : (X, (1 : Int)) ∈ P <;> by_cases h2 : (X, (-1 : Int)) ∈ P <;> simp only [h1, h2, (q 1).mp, (q (-1)).mp, ← q 1, ← q (-1)]
/-! the least of a list, as min finds it -/
def minF (x : List Int) (xs : List (List Int)) : List Int := xs.foldl (fun a y => if ltL y a then y else a) x
theorem minF_ok : ∀ (xs : List (List Int)) (x : List Int), (∀ y ∈ x :: xs, y.length = 9) → minF x xs ∈ x :: xs ∧ ∀ y ∈ x :: xs, ltL y (minF x xs) = false
  | [], x, _ => ⟨List.mem_cons_self, fun y hy => by
    rw [List.mem_singleton.mp hy]
    exact ltL_irr x⟩
  | y :: xs, x, h => by
    have hx := h x List.mem_cons_self
    have hy := h y (List.mem_cons_of_mem _ List.mem_cons_self)
    show minF (if ltL y x then y else x) xs ∈ _ ∧ _
    have e : minF x (y :: xs) = minF (if ltL y x then y else x) xs := rfl
    rw [e]
    have cases2 : (if ltL y x then y else x) = y ∧ ltL y x = true ∨ (if ltL y x then y else x) = x ∧ ltL y x = false := by
      cases z : ltL y x
      · exact .inr ⟨if_neg Bool.false_ne_true, rfl⟩
      · exact .inl ⟨if_pos rfl, rfl⟩
    obtain ⟨i1, i2⟩ := minF_ok xs (if ltL y x then y else x) fun w hw => by
      rcases List.mem_cons.mp hw with rfl | hw
      · rcases cases2 with ⟨e, _⟩ | ⟨e, _⟩ <;> rw [e] <;> assumption
      · exact h w (List.mem_cons_of_mem _ (List.mem_cons_of_mem _ hw))
    have len9 : ∀ w ∈ (if ltL y x then y else x) :: xs, w.length = 9 := fun w hw => by
      rcases List.mem_cons.mp hw with rfl | hw
      · rcases cases2 with ⟨e, _⟩ | ⟨e, _⟩ <;> rw [e] <;> assumption
      · exact h w (List.mem_cons_of_mem _ (List.mem_cons_of_mem _ hw))
    have lm := len9 _ i1
    have i0 := i2 _ List.mem_cons_self
    refine ⟨?_, fun w hw => ?_⟩
    · rcases List.mem_cons.mp i1 with z | z
      · rw [z]
        rcases cases2 with ⟨e, _⟩ | ⟨e, _⟩ <;> rw [e]
        · exact List.mem_cons_of_mem _ List.mem_cons_self
        · exact List.mem_cons_self
      · exact List.mem_cons_of_mem _ (List.mem_cons_of_mem _ z)
    · rcases List.mem_cons.mp hw with rfl | hw
      · rcases cases2 with ⟨e, l⟩ | ⟨e, l⟩
        · rw [e] at i0
          have l' : ltL w y = false := by
            have anti : ∀ {a b : List Int}, ltL a b = true → ltL b a = false := fun {a} => by
              induction a with
              | nil => exact fun {b} h => by unfold ltL at h; cases h
              | cons u us ih =>
                intro b hb
                cases b with
                | nil => unfold ltL; rfl
                | cons v vs =>
                  unfold ltL at hb ⊢
                  by_cases q : u = v
                  · rw [if_pos q] at hb
                    rw [if_pos q.symm]
                    exact ih hb
                  · rw [if_neg q] at hb
                    rw [if_neg fun z => q z.symm]
                    have := of_decide_eq_true hb
                    exact decide_eq_false (by omega)
            exact anti l
          rw [e] at lm ⊢
          exact ltL_trans (hx.trans hy.symm) (hy.trans lm.symm) l' i0
        · rw [e] at i0 ⊢
          exact i0
      · rcases List.mem_cons.mp hw with rfl | hw
        · rcases cases2 with ⟨e, l⟩ | ⟨e, l⟩
          · rw [e] at i0 ⊢
            exact i0
          · rw [e] at i0 lm ⊢
            exact ltL_trans (hy.trans hx.symm) (hx.trans lm.symm) l i0
        · exact i2 w (List.mem_cons_of_mem _ hw)
/-! squares as data -/
def row3 (a b c : Int) : PyData := .tuple [.int a, .int b, .int c]
def sqD : List Int → PyData
  | [a, b, c, d, e, f, g, h, i] => .tuple [row3 a b c, row3 d e f, row3 g h i]
  | _ => .none
theorem eq_row (a b c a' b' c' : Int) : PyData.eqv (row3 a b c) (row3 a' b' c') = (decide (a = a') && (decide (b = b') && decide (c = c'))) := by
  show (decide (a = a') && (decide (b = b') && (decide (c = c') && true))) = _
  rw [Bool.and_true]
theorem lt_row (a b c a' b' c' : Int) : dataLt (row3 a b c) (row3 a' b' c') = ltL [a, b, c] [a', b', c'] := by
  unfold row3
  rw [dataLt_tuple, dataLt_cons rfl, dataLt_cons rfl, dataLt_cons rfl, dataLt_int, dataLt_int, dataLt_int]
  have e : ∀ x y : Int, PyData.eqv (.int x) (.int y) = decide (x = y) := fun _ _ => rfl
  rw [e, e, e]
  unfold ltL ltL ltL ltL
  show (if decide (a = a') = true then (if decide (b = b') = true then (if decide (c = c') = true then PyProof.Rows.lexLt itemOrd (keyToksAll []) (keyToksAll []) else decide (c < c')) else decide (b < b')) else decide (a < a')) = _
  have z : PyProof.Rows.lexLt itemOrd (keyToksAll []) (keyToksAll []) = false := PyProof.Rows.lex_irrefl _
  rw [z]
  simp only [decide_eq_true_eq]
theorem sq_lt {X Y : List Int} (hX : X.length = 9) (hY : Y.length = 9) : dataLt (sqD X) (sqD Y) = ltL X Y := by
  match X, Y, hX, hY with
  | [a, b, c, d, e, f, g, h, i], [a', b', c', d', e', f', g', h', i'], _, _ =>
    show dataLt (.tuple [row3 a b c, row3 d e f, row3 g h i]) (.tuple [row3 a' b' c', row3 d' e' f', row3 g' h' i']) = _
    rw [dataLt_tuple, dataLt_cons rfl, dataLt_cons rfl, dataLt_cons rfl, eq_row, eq_row, eq_row, lt_row, lt_row, lt_row]
    have z : PyProof.Rows.lexLt itemOrd (keyToksAll []) (keyToksAll []) = false := PyProof.Rows.lex_irrefl _
    rw [z]
    simp only [ltL, Bool.and_eq_true, decide_eq_true_eq]
    by_cases h1 : a = a' <;> by_cases h2 : b = b' <;> by_cases h3 : c = c' <;> simp only [h1, h2, h3, if_true, if_false, true_and, and_true, and_false, false_and, and_self]
    by_cases h4 : d = d' <;> by_cases h5 : e = e' <;> by_cases h6 : f = f' <;> simp only [h4, h5, h6, if_true, if_false, true_and, and_true, and_false, false_and, and_self]
    by_cases h7 : g = g' <;> by_cases h8 : h = h' <;> by_cases h9 : i = i' <;> simp only [h7, h8, h9, if_true, if_false, true_and, and_true, and_false, false_and, and_self]
theorem sq_eqv {X Y : List Int} (hX : X.length = 9) (hY : Y.length = 9) : PyData.eqv (sqD X) (sqD Y) = decide (X = Y) := by
  match X, Y, hX, hY with
  | [a, b, c, d, e, f, g, h, i], [a', b', c', d', e', f', g', h', i'], _, _ =>
    show (PyData.eqv (row3 a b c) (row3 a' b' c') && (PyData.eqv (row3 d e f) (row3 d' e' f') && (PyData.eqv (row3 g h i) (row3 g' h' i') && true))) = _
    rw [eq_row, eq_row, eq_row, Bool.and_true]
    simp only [List.cons.injEq, and_true, Bool.decide_and, Bool.and_assoc]
theorem min_sq : ∀ (xs : List (List Int)) (x : List Int), (∀ y ∈ x :: xs, y.length = 9) → minD (sqD x) (xs.map sqD) = sqD (minF x xs)
  | [], _, _ => rfl
  | y :: xs, x, h => by
    have hx := h x List.mem_cons_self
    have hy := h y (List.mem_cons_of_mem _ List.mem_cons_self)
    show minD (if dataLt (sqD y) (sqD x) then sqD y else sqD x) (xs.map sqD) = sqD (minF (if ltL y x then y else x) xs)
    rw [sq_lt hy hx]
    have e : (if ltL y x = true then sqD y else sqD x) = sqD (if ltL y x = true then y else x) := by split <;> rfl
    rw [e]
    refine min_sq xs _ fun w hw => ?_
    rcases List.mem_cons.mp hw with rfl | hw
    · split <;> assumption
    · exact h w (List.mem_cons_of_mem _ (List.mem_cons_of_mem _ hw))
theorem sq_alike {X Y : List Int} (hX : X.length = 9) (hY : Y.length = 9) : alike (sqD X) (sqD Y) = true := by
  match X, Y, hX, hY with
  | [a, b, c, d, e, f, g, h, i], [a', b', c', d', e', f', g', h', i'], _, _ => rfl
end TCA
namespace TCX
open PySem PySem.Spec PyProof.Rows L2
/-! dicts whose keys are tuples of tuples -/
mutual
/-- the value v is the key k: a whole number, a text, or a tracked tuple of such -/
inductive NKey (H : Hp) : NestedKey → V → Prop
  | int (i : Int) : NKey H (.num i) (.int i)
  | str (x : Str) : NKey H (.text x) (.str x)
  | tup {b : Addr} {vs : List V} {ks : List NestedKey} : H b = some (.tup vs) → NKeys H ks vs → NKey H (.tup ks) (.ref b)
inductive NKeys (H : Hp) : List NestedKey → List V → Prop
  | nil : NKeys H [] []
  | cons {k : NestedKey} {v : V} {ks : List NestedKey} {vs : List V} : NKey H k v → NKeys H ks vs → NKeys H (k :: ks) (v :: vs)
end
mutual
theorem NKey.keeps {H H' : Hp} (ht : ∀ b xs, H b = some (.tup xs) → H' b = some (.tup xs)) : ∀ {k : NestedKey} {v : V}, NKey H k v → NKey H' k v
  | .num _, _, h => by cases h; exact .int _
  | .text _, _, h => by cases h; exact .str _
  | .none, _, h => by cases h
  | .tup ks, _, h => by
    cases h with
    | tup h1 h2 => exact .tup (ht _ _ h1) (NKeys.keeps ht h2)
theorem NKeys.keeps {H H' : Hp} (ht : ∀ b xs, H b = some (.tup xs) → H' b = some (.tup xs)) : ∀ {ks : List NestedKey} {vs : List V}, NKeys H ks vs → NKeys H' ks vs
  | [], _, h => by cases h; exact .nil
  | k :: ks, _, h => by
    cases h with
    | cons h1 h2 => exact .cons (NKey.keeps ht h1) (NKeys.keeps ht h2)
end
mutual
theorem NKey.is {P : Program} {w : World} {H : Hp} {h : Heap} (ok : HOk P w H h) : ∀ {k : NestedKey} {v : V} {u : Value}, NKey H k v → RelV v u → NestedIs h k u
  | .num i, _, u, hk, r => by
    cases hk
    obtain ⟨t, e⟩ := (show ∃ t, u = Value.int i t from r)
    subst e
    exact .int _ _
  | .text x, _, u, hk, r => by
    cases hk
    obtain ⟨t, e⟩ := (show ∃ t, u = Value.str x t from r)
    subst e
    exact .text _ _
  | .none, _, _, hk, _ => by cases hk
  | .tup ks, _, u, hk, r => by
    cases hk with
    | @tup b vs _ h1 h2 =>
      obtain rfl : u = Value.ref b := r
      obtain ⟨_, its, rr, o, g1, g2, n, g3⟩ := (show ObjOk P w H h b (.tup vs) from ok b _ h1)
      exact .tup g1 g2 g3 (by simpa using NKeys.is ok h2 rr)
theorem NKeys.is {P : Program} {w : World} {H : Hp} {h : Heap} (ok : HOk P w H h) : ∀ {ks : List NestedKey} {vs : List V} {us : List Value}, NKeys H ks vs → Vals vs us → NestedAll h ks us
  | [], _, _, hk, r => by
    cases hk
    cases r
    exact .nil
  | k :: ks, _, _, hk, r => by
    cases hk with
    | cons h1 h2 =>
      cases r with
      | cons r1 r2 => exact .cons (NKey.is ok h1 r1) (NKeys.is ok h2 r2)
end
section
variable (P : Program) (w : World)
/-- a dict object with these entries -/
def NdO (a : Addr) (xs : List (NestedKey × Addr × Value)) : HO := .ext fun h => ∃ o es ep, h.get? a = some o ∧ o.ExactDict ∧ o.data = .dict es ep ∧ es.toList = xs.map (entryOfKey (nestedKind P w)) ∧ (xs.map (·.1)).Nodup
abbrev KN (H : Hp) : List (NestedKey × V) → List (NestedKey × Addr × Value) → Prop := Paired fun p q => p.1 = q.1 ∧ (NKey H q.1 (.ref q.2.1) ∧ q.1.depth ≤ 8) ∧ RelV p.2 q.2.2
/-- at d stands a dict of these pairs -/
def NDictAt (H : Hp) (d : Addr) (kvs : List (NestedKey × V)) : Prop := ∃ xs, H d = some (NdO P w d xs) ∧ KN H kvs xs ∧ kvs.length ≤ sizeLine ∧ (d == sysModules) = false
end
section
variable {P : Program} {w : World}
theorem KN.val {H : Hp} {kvs : List (NestedKey × V)} {xs : List (NestedKey × Addr × Value)} (r : KN H kvs xs) (k : NestedKey) : RelO (valV kvs k) ((atKey xs k).map (·.2)) := by
  induction r with
  | nil => exact True.intro
  | @cons p q ps qs h t ih =>
    obtain ⟨h1, _, h2⟩ := h
    by_cases e : p.1 = k
    · have e' : q.1 = k := h1.symm.trans e
      have b : atKey (q :: qs) k = some q.2 := by simp [atKey, List.find?_cons, e']
      rw [valV_pos e, b]; exact h2
    · have e' : ¬ q.1 = k := fun z => e (h1.trans z)
      have b : atKey (q :: qs) k = atKey qs k := by simp [atKey, List.find?_cons, e']
      rw [valV_neg e, b]; exact ih
theorem KN.repl {H : Hp} {kvs : List (NestedKey × V)} {xs : List (NestedKey × Addr × Value)} (r : KN H kvs xs) (k : NestedKey) {y : V} {u : Value} (ry : RelV y u) :
    KN H (kvs.map fun kv => if kv.1 = k then (kv.1, y) else kv) (xs.map (putAt k u)) := by
  induction r with
  | nil => exact .nil
  | @cons p q ps qs h t ih =>
    rw [List.map_cons, List.map_cons]
    refine .cons ?_ ih
    obtain ⟨h1, h2, h3⟩ := h
    unfold putAt
    by_cases e : p.1 = k
    · rw [if_pos e, if_pos (h1.symm.trans e)]; exact ⟨h1, h2, ry⟩
    · rw [if_neg e, if_neg (fun z => e (h1.trans z))]; exact ⟨h1, h2, h3⟩
theorem KN.put {H : Hp} {kvs : List (NestedKey × V)} {xs : List (NestedKey × Addr × Value)} (r : KN H kvs xs) (k : NestedKey) {b : Addr} {y : V} {u : Value} (hb : NKey H k (.ref b)) (hd : k.depth ≤ 8) (ry : RelV y u) :
    KN H (putK kvs k y) (storedH xs k b u) := by
  have e : (kvs.any fun kv => decide (kv.1 = k)) = (atKey xs k).isSome := by
    rw [valV_any, (r.val k).isSome_eq, Option.isSome_map]
  unfold putK storedH
  rw [e]
  by_cases q : (atKey xs k).isSome = true
  · rw [if_pos q, if_pos q]; exact r.repl k ry
  · rw [if_neg q, if_neg q]; exact Paired.snoc r ⟨rfl, ⟨hb, hd⟩, ry⟩
theorem KN.keeps {H H' : Hp} {kvs : List (NestedKey × V)} {xs : List (NestedKey × Addr × Value)} (r : KN H kvs xs) (ht : ∀ b ys, H b = some (.tup ys) → H' b = some (.tup ys)) : KN H' kvs xs :=
  Paired.mapP r fun _ _ z => ⟨z.1, ⟨z.2.1.1.keeps ht, z.2.1.2⟩, z.2.2⟩
theorem NDictAt.keeps {H H' : Hp} {d : Addr} {kvs : List (NestedKey × V)} (h : NDictAt P w H d kvs) (hd : ∀ o, H d = some o → H' d = some o) (ht : ∀ b ys, H b = some (.tup ys) → H' b = some (.tup ys)) : NDictAt P w H' d kvs := by
  obtain ⟨xs, h1, h2, h3, h4⟩ := h
  exact ⟨xs, hd _ h1, KN.keeps h2 ht, h3, h4⟩
theorem nd_of {H : Hp} {h : Heap} {d : Addr} {kvs : List (NestedKey × V)} (ok : HOk P w H h) (e : NDictAt P w H d kvs) : ∃ xs, H d = some (NdO P w d xs) ∧ KN H kvs xs ∧ h.DictOfH (nestedKind P w) d xs ∧ kvs.length ≤ sizeLine ∧ (d == sysModules) = false := by
  obtain ⟨xs, h1, h2, h3, h4⟩ := e
  obtain ⟨⟨o, es, ep, g1, g2, g3, g4, g5⟩, _⟩ := (show ObjOk P w H h d (NdO P w d xs) from ok d _ h1)
  refine ⟨xs, h1, h2, ⟨o, es, ep, g1, g2, g3, g4, fun x hx => ?_, g5⟩, h3, h4⟩
  have all : ∀ {l : List (NestedKey × V)} {m : List (NestedKey × Addr × Value)}, KN H l m → ∀ x ∈ m, (nestedKind P w).is h x.1 x.2.1 := by
    intro l m q
    induction q with
    | nil => intro x hx; exact nomatch hx
    | @cons p q ps qs hq t ih =>
      intro x hx
      rcases List.mem_cons.mp hx with e | hx
      · subst e
        exact ⟨NKey.is ok hq.2.1.1 rfl, hq.2.1.2⟩
      · exact ih x hx
  exact all h2 x hx
/-- what the dict at a holds at the key y -/
def DGetN (P : Program) (w : World) (H : Hp) (a : Addr) (y : V) (r : Option V) : Prop := ∃ kvs k b, NDictAt P w H a kvs ∧ y = .ref b ∧ NKey H k (.ref b) ∧ k.depth ≤ 8 ∧ r = valV kvs k
end
section
variable {X : Cx} {pins : List (Addr × Obj)} {σ : L2.St} {H : Hp} {s : Shared} {a : Addr} {y v : V} {u r : Value} {o : Option V} {A : Around} {E : Value → Shared → Prop}
theorem nroom (hu : A.units + 64 < cLine) : (nestedKind X.prog X.w).room A.in1 := by
  show A.units + 1 + 8 < cLine
  omega
theorem n_getItem {Q : Value → Shared → Prop} (hu : A.units + 64 < cLine) (I : Inv X pins σ H s) (g : DGetN X.prog X.w H a y (some v)) (ry : RelV y u) (h : ∀ w' s', Inv X pins σ H s' → RelV v w' → Q w' s') :
    wpAny (model X.prog X.w) A (getItem (.ref a) u) Q E s := by
  obtain ⟨kvs, k, b, e, ey, hk, h8, l⟩ := g
  subst ey
  cases (show u = Value.ref b from ry)
  obtain ⟨xs, _, rel, dd, z, hd⟩ := nd_of I.hok e
  obtain ⟨w', hw, rw'⟩ := RelO.some_of (v := v) (o := (atKey xs k).map (·.2)) (by rw [l]; exact KN.val rel k)
  obtain ⟨p, hp, hp2⟩ := Option.map_eq_some_iff.mp hw
  refine wpAny_getItem_heap (knd := nestedKind X.prog X.w) (nroom hu) ⟨NKey.is I.hok hk rfl, h8⟩ dd hp ?_
  rw [hp2]
  exact h w' _ (I.tok _) rw'
theorem n_in {Q : Value → Shared → Prop} (hu : A.units + 64 < cLine) (I : Inv X pins σ H s) (g : DGetN X.prog X.w H a y o) (ry : RelV y u) (h : ∀ s', Inv X pins σ H s' → Q (.bool o.isSome) s') :
    wpAny (model X.prog X.w) A (compareOp .In u (.ref a)) Q E s := by
  obtain ⟨kvs, k, b, e, ey, hk, h8, l⟩ := g
  subst ey
  cases (show u = Value.ref b from ry)
  obtain ⟨xs, _, rel, dd, z, hd⟩ := nd_of I.hok e
  refine wpAny_in_heap (knd := nestedKind X.prog X.w) (nroom hu) ⟨NKey.is I.hok hk rfl, h8⟩ hd dd ?_
  have q := (KN.val rel k).isSome_eq
  rw [Option.isSome_map] at q
  rw [← q, ← l]
  exact h _ (I.tok _)
theorem n_notIn {Q : Value → Shared → Prop} (hu : A.units + 64 < cLine) (I : Inv X pins σ H s) (g : DGetN X.prog X.w H a y o) (ry : RelV y u) (h : ∀ s', Inv X pins σ H s' → Q (.bool (!o.isSome)) s') :
    wpAny (model X.prog X.w) A (compareOp .NotIn u (.ref a)) Q E s := by
  obtain ⟨kvs, k, b, e, ey, hk, h8, l⟩ := g
  subst ey
  cases (show u = Value.ref b from ry)
  obtain ⟨xs, _, rel, dd, z, hd⟩ := nd_of I.hok e
  refine wpAny_notIn_heap (knd := nestedKind X.prog X.w) (nroom hu) ⟨NKey.is I.hok hk rfl, h8⟩ hd dd ?_
  have q := (KN.val rel k).isSome_eq
  rw [Option.isSome_map] at q
  rw [← q, ← l]
  exact h _ (I.tok _)
/-- a[y] = v: the heap behind it -/
def DPutN (P : Program) (w : World) (H : Hp) (a : Addr) (y v : V) (Q : Hp → Prop) : Prop := ∃ kvs k b, NDictAt P w H a kvs ∧ y = .ref b ∧ NKey H k (.ref b) ∧ k.depth ≤ 8 ∧ kvs.length < sizeLine ∧
  ∀ H', (∀ c, c ≠ a → H' c = H c) → NDictAt P w H' a (putK kvs k v) → Q H'
theorem nd_ok {P : Program} {w : World} {H' : Hp} {h' : Heap} {xs : List (NestedKey × Addr × Value)} (dd : h'.DictOfH (nestedKind P w) a xs) : ObjOk P w H' h' a (NdO P w a xs) := by
  obtain ⟨q, es, ep, hq, h2, h3, h4, _, h5⟩ := dd
  refine ⟨⟨q, es, ep, hq, h2, h3, h4, h5⟩, ⟨q, hq⟩, fun h1 h2' p k => ?_⟩
  obtain ⟨q, es, ep, hq, h2, h3, h4, h5⟩ := p
  exact ⟨q, es, ep, k _ hq, h2, h3, h4, h5⟩
theorem n_setItem {R : Hp → Prop} {Q : Unit → Shared → Prop} (hu : A.units + 64 < cLine) (I : Inv X pins σ H s) (g : DPutN X.prog X.w H a y v R) (ry : RelV y u) (rv : RelV v r) (h : ∀ H' s', Inv X pins σ H' s' → R H' → Q () s') :
    wpAny (model X.prog X.w) A (setItem (.ref a) u r) Q E s := by
  obtain ⟨kvs, k, b, e, ey, hk, h8, l, q⟩ := g
  subst ey
  cases (show u = Value.ref b from ry)
  obtain ⟨xs, hx, rel, dd, z, hd⟩ := nd_of I.hok e
  have hz : xs.length ≤ sizeLine := by rw [← Paired.length rel]; exact z
  have hl : (putK kvs k v).length ≤ sizeLine := by have := length_putK kvs k v; omega
  refine wpAny_setItem_heap (knd := nestedKind X.prog X.w) (hsz := hz) (nroom hu) ⟨NKey.is I.hok hk rfl, h8⟩ dd fun h' dd' hs => ?_
  have he : ∃ q, h'.get? a = some q := let ⟨q, _, _, hq, _⟩ := dd'; ⟨q, hq⟩
  have nt : ∀ c ys, H c = some (.tup ys) → c ≠ a := fun c ys ec => ne_of ec hx (fun z => nomatch z)
  have I' := d_write (t' := s.toks) (ob := NdO X.prog X.w a (storedH xs k b r)) I (by rw [hx]; exact True.intro) hs he (nd_ok dd')
  refine h _ _ (I'.tok _) (q _ (fun c hc => upd_ne hc) ⟨storedH xs k b r, upd_same, (KN.put rel k hk h8 rv).keeps fun c ys ec => ?_, hl, hd⟩)
  rw [upd_ne (nt c ys ec)]
  exact ec
end
/-! ### rules -/
/-- {} of such keys -/
def tDNewN (P : Program) (w : World) : TE := fun _ H Q => ∀ p H', H p = none → (∀ c, c ≠ p → H' c = H c) → NDictAt P w H' p [] → Q (.ref p) H'
def tDGetN (P : Program) (w : World) (td ty : TE) : TE := fun σ H Q => td σ H fun x H1 => ty σ H1 fun y H2 => ∃ a v, x = .ref a ∧ DGetN P w H2 a y (some v) ∧ Q v H2
def tDInN (P : Program) (w : World) (ty td : TE) : TE := fun σ H Q => ty σ H fun y H1 => td σ H1 fun x H2 => ∃ a o, x = .ref a ∧ DGetN P w H2 a y o ∧ Q (.bl o.isSome) H2
def tDNotInN (P : Program) (w : World) (ty td : TE) : TE := fun σ H Q => ty σ H fun y H1 => td σ H1 fun x H2 => ∃ a o, x = .ref a ∧ DGetN P w H2 a y o ∧ Q (.bl (!o.isSome)) H2
def sDPutN (P : Program) (w : World) (td ty tv : TE) : TS := fun D σ H => tv σ H fun v H1 => td σ H1 fun x H2 => ty σ H2 fun y H3 => ∃ a, x = .ref a ∧ DPutN P w H3 a y v fun H4 => D.nx σ H4
section
variable {X : Cx} {o i e value : Expr} {pos pos' tpos : Pos} {td ty tv : TE}
theorem pe_dnewN : PE X (.Dict [] [] pos) (tDNewN X.prog X.w) := ⟨fun pins s σ H Q I h => by
  have hn := I.hok.fresh (Nat.le_refl s.heap.objs.size)
  have nd : (s.heap.objs.size == sysModules) = false := beq_eq_false_iff_ne.mpr (Ne.symm (Nat.ne_of_lt I.big))
  refine wpAny_Dict_empty ⟨.ref s.heap.objs.size, _, I.laid (a := s.heap.objs.size) (o := NdO X.prog X.w s.heap.objs.size []) (t' := s.toks) (fun _ _ q => Heap.get?_push_of_some _ q) (Nat.le_refl _) ?_, rfl, h _ _ hn (fun c hc => upd_ne hc) ⟨[], upd_same, .nil, Nat.zero_le _, nd⟩⟩
  exact ⟨⟨_, #[], 0, Heap.get?_push_size _ rfl, ⟨rfl, rfl, rfl⟩, rfl, rfl, List.nodup_nil⟩, ⟨_, Heap.get?_push_size _ rfl⟩, fun h1 h2' p k => by
    obtain ⟨q, es, ep, hq, h2, h3, h4, h5⟩ := p
    exact ⟨q, es, ep, k _ hq, h2, h3, h4, h5⟩⟩⟩
theorem ndict_typeIs {pins : List (Addr × Obj)} {σ : L2.St} {H : Hp} {s : Shared} {a : Addr} {y : V} {o : Option V} (I : Inv X pins σ H s) (g : DGetN X.prog X.w H a y o) : s.TypeIs (.ref a) "dict" := by
  obtain ⟨kvs, k, b, e, _⟩ := g
  obtain ⟨xs, _, _, dd, _⟩ := nd_of I.hok e
  exact dd.typeIs
theorem pe_dgetN (hu : X.A.units + 64 < cLine) (ho : PE X o td) (hi : PE X i ty) (hs : NoSl i) : PE X (.Subscript o i pos) (tDGetN X.prog X.w td ty) := by
  refine ⟨fun pins s σ H Q I h => ?_⟩
  refine subD_of PySem.F.slot_dict_getitem.lookup hs (thn (ho.run pins s σ H _ I h) fun u s1 ⟨x, H1, I1, rx, q1⟩ => thn (hi.run pins s1 σ H1 _ I1 q1) fun iv s2 ⟨y, H2, I2, ry, a, v, ex, g, q2⟩ => ?_)
  subst ex
  obtain rfl : u = Value.ref a := rx
  exact ⟨ndict_typeIs I2 g, n_getItem hu I2 g ry fun w' s3 I3 rw' => ⟨v, H2, I3, rw', q2⟩⟩
theorem pc_dinN (hu : X.A.units + 64 < cLine) (hi : PE X i ty) (ho : PE X o td) : PC X .In i o (tDInN X.prog X.w ty td) := by
  refine ⟨fun pins s σ H Q I h => ?_⟩
  refine thn (hi.run pins s σ H _ I h) fun iv s1 ⟨y, H1, I1, ry, q1⟩ => thn (ho.run pins s1 σ H1 _ I1 q1) fun u s2 ⟨x, H2, I2, rx, a, ov, ex, g, q2⟩ => ?_
  subst ex
  obtain rfl : u = Value.ref a := rx
  exact n_in hu I2 g ry fun s3 I3 => ⟨.bl ov.isSome, H2, I3, rfl, q2⟩
theorem pc_dnotinN (hu : X.A.units + 64 < cLine) (hi : PE X i ty) (ho : PE X o td) : PC X .NotIn i o (tDNotInN X.prog X.w ty td) := by
  refine ⟨fun pins s σ H Q I h => ?_⟩
  refine thn (hi.run pins s σ H _ I h) fun iv s1 ⟨y, H1, I1, ry, q1⟩ => thn (ho.run pins s1 σ H1 _ I1 q1) fun u s2 ⟨x, H2, I2, rx, a, ov, ex, g, q2⟩ => ?_
  subst ex
  obtain rfl : u = Value.ref a := rx
  exact n_notIn hu I2 g ry fun s3 I3 => ⟨.bl (!ov.isSome), H2, I3, rfl, q2⟩
theorem ps_dputN (hu : X.A.units + 64 < cLine) (ho : PE X o td) (hi : PE X i ty) (hv : PE X value tv) (hs : swapsWith value (some (.Subscript o i pos')) pos.line X.env = pure false) :
    PS X (.Assign [.Subscript o i pos'] value pos) (sDPutN X.prog X.w td ty tv) := by
  refine ⟨fun pins s σ H D I h => ?_⟩
  refine wpAny_Assign_Subscript (thn (hv.run pins s σ H _ I h) fun r s1 ⟨v, H1, I1, rv, q1⟩ => thn (ho.run pins s1 σ H1 _ I1 q1) fun u s2 ⟨x, H2, I2, rx, q2⟩ => thn (hi.run pins s2 σ H2 _ I2 q2) fun iv s3 ⟨y, H3, I3, ry, a, ex, g⟩ => ?_) hs
  subst ex
  obtain rfl : u = Value.ref a := rx
  exact n_setItem hu I3 g ry rv fun H4 s4 I4 q4 => ⟨σ, H4, I4, q4⟩
end
end TCX
namespace TCX
open PySem PySem.Spec PyProof.Rows L2
section
variable {X : Cx} {pins : List (Addr × Obj)} {σ : L2.St} {H : Hp} {s : Shared}
/-- two dicts with the same keys, their values alike to the deep -/
theorem hits_deep {κ : Type} [DecidableEq κ] (I : Inv X pins σ H s) (hu : X.A.in1.units + 60 < cLine) {kvs : List (κ × V)} {vb : List (κ × Value)} (rb : KV kvs vb) {ks : List (κ × V)} {va : List (κ × Value)} (ra : KV ks va) :
    (∀ p ∈ ks, ∃ y d e, valV kvs p.1 = some y ∧ Dp X.K H p.2 d ∧ Dp X.K H y e ∧ d.canLay0 = true ∧ e.canLay0 = true ∧ d.depth ≤ 60 ∧ PyData.eqv d e = true) → PySem.W.KeqHits X.A.in1 s vb va true := by
  unfold KV at ra
  induction ra with
  | nil => intro _; exact .nil
  | @cons p q ps qs h t ih =>
    intro hp
    obtain ⟨h1, h2⟩ := h
    obtain ⟨y, d, e, ey, hd, he, cd, ce, dp, eq⟩ := hp p List.mem_cons_self
    have rr : RelO (some y) (valueAt vb p.1) := by rw [← ey]; exact rb.val p.1
    obtain ⟨u, hy, ry⟩ := rr.some_of
    obtain ⟨k, v⟩ := q
    have h1' : p.1 = k := h1
    rw [h1'] at hy
    obtain ⟨as, r1⟩ := Dp.reads I d p.2 v hd h2
    obtain ⟨bs, r2⟩ := Dp.reads I e y u he ry
    have z := SeqAt.eqAt_reads d e X.A.in1 s v u as bs r1 r2 cd ce (by
      have : min d.depth e.depth ≤ d.depth := Nat.min_le_left _ _
      omega)
    rw [eq] at z
    show PySem.W.KeqHits X.A.in1 s vb ((k, v) :: qs) (true && true)
    exact .hit hy z (ih fun p' hm => hp p' (List.mem_cons_of_mem _ hm))
def rEqDD (K : PySem.W.Frag) : R2 := fun x y H Q => ∃ a b ks ls, x = .ref a ∧ y = .ref b ∧ H a = some (.dK ks) ∧ H b = some (.dK ls) ∧ ks.length = ls.length ∧ (∀ p ∈ ks, ∃ y d e, valV ls p.1 = some y ∧ Dp K H p.2 d ∧ Dp K H y e ∧ d.canLay0 = true ∧ e.canLay0 = true ∧ d.depth ≤ 60 ∧ PyData.eqv d e = true) ∧ Q (.bl true) H
theorem op_eqDD (hu : X.A.units + 64 < cLine) : OpR X (compareOp .Eq) (rEqDD X.K) := by
  intro pins s σ H x y v u Q I rx ry h
  obtain ⟨a, b, ks, ls, rfl, rfl, ea, eb, hlen, hp, q⟩ := h
  obtain rfl : v = Value.ref a := rx
  obtain rfl : u = Value.ref b := ry
  obtain ⟨_, ya, va, ra, da⟩ := (show ObjOk X.prog X.w H s.heap a (.dK ks) from I.hok a _ ea)
  obtain ⟨_, yb, vb, rb, db⟩ := (show ObjOk X.prog X.w H s.heap b (.dK ls) from I.hok b _ eb)
  have hl : va.length = vb.length := by rw [← ra.length, ← rb.length]; exact hlen
  have hu1 : X.A.in1.units + 60 < cLine := by
    show X.A.units + 1 + 60 < cLine
    omega
  exact PySem.W.keq_eq (knd := mixKind X.prog X.w) (r := true) ya yb da db (by omega) (fun _ => hits_deep I hu1 rb ra hp) (fin_bl I q (by simp [hl]))
end
end TCX
/-! sorted(d): a dict whose keys are data of one kind (tuples, tuples of tuples) -/
namespace TCX
open PySem PySem.Spec PyProof.Rows L2 PySem.W
/-- what stands where, as data -/
abbrev VD := V × PyData
section
variable {X : Cx} {pins : List (Addr × Obj)} {σ : L2.St} {H : Hp} {s : Shared}
theorem reads_all (I : Inv X pins σ H s) : ∀ {bs : List VD} {us : List Value}, Vals (bs.map (·.1)) us → (∀ b ∈ bs, Dp X.K H b.1 b.2) → EachIs (fun u (b : VD) => RelV b.1 u) us bs ∧ EachIs (fun u (b : VD) => ∃ as, Reads s.heap u b.2 as) us bs
  | [], _, r, _ => by
    cases r
    exact ⟨.nil, .nil⟩
  | b :: bs, _, r, h => by
    cases r with
    | cons r1 r2 =>
      obtain ⟨z1, z2⟩ := reads_all I r2 fun b hb => h b (List.mem_cons_of_mem _ hb)
      exact ⟨.cons r1 z1, .cons (Dp.reads I _ _ _ (h b List.mem_cons_self) r1) z2⟩
theorem vals_each : ∀ {bs : List VD} {us : List Value}, EachIs (fun u (b : VD) => RelV b.1 u) us bs → Vals (bs.map (·.1)) us
  | _, _, .nil => .nil
  | _, _, .cons h t => .cons h (vals_each t)
theorem vals_ix : ∀ {xs : List V} {us : List Value}, us.length = xs.length → (∀ (i : Nat) (x : V) (u : Value), xs[i]? = some x → us[i]? = some u → RelV x u) → Vals xs us
  | [], [], _, _ => .nil
  | [], _ :: _, h, _ => by cases h
  | _ :: _, [], h, _ => by cases h
  | x :: xs, u :: us, h, r => .cons (r 0 x u rfl rfl) (vals_ix (Nat.succ.inj h) fun i x' u' e1 e2 => r (i + 1) x' u' e1 e2)
theorem sortedRaw {d : Addr} {es : Array DictEntry} {ep : Nat} {bs : List VD} {Q : VK} {E : Value → Shared → Prop} (I : Inv X pins σ H s) (cm : X.calm = true) (hu : X.A.units + 64 < cLine) (lo : (d == sysModules) = false) (raw : s.heap.DictRaw d es ep)
    (sz : es.size = bs.length) (ks : ∀ i (hi : i < es.size) b, bs[i]? = some b → RelV b.1 es[i].key) (hd : ∀ b ∈ bs, Dp X.K H b.1 b.2) (al : AllAlike (bs.map (·.2))) (so : Sortable (bs.map (·.2))) (len : bs.length ≤ 10000) (dep : ∀ b ∈ bs, b.2.depth ≤ 8)
    (q : ∀ p, H p = none → Q (.ref p) (upd H p (.lst ((bs.mergeSort (dataLe false (·.2))).map (·.1))))) :
    wpAny (model X.prog X.w) X.A (call (.builtin "sorted") [Value.ref d]) (fun u s' => ∃ v H', Inv X pins σ H' s' ∧ RelV v u ∧ Q v H') E s := by
  have fits : ∀ {n : Nat}, n = bs.length → n ≤ sizeLine := fun {n} e => by
    rw [e]
    exact Nat.le_trans len (by decide)
  refine Calls.call_function_entry kind_sorted plain_sorted entry_sorted (args_sorted1 _) ?_
  unfold Builtin.«sorted»
  refine wpAny_bind (m := checkCount "sorted" 1 1 _) (wpAny_pure (wpAny_bind ?_))
  refine PySem.W.kdu_collect (A := X.A.in1) (KdlSrc.rawDict (es := es) (ep := ep) lo) (I.ok.hd cm) raw (fits sz) fun g tk got gk gg => ?_
  have gl : got.toList.length = bs.length := by
    rw [Array.length_toList, gg.1, sz]
  have I2 : Inv X pins σ H { s with heap := g, toks := tk } := I.kept gk
  have vv : Vals (bs.map (·.1)) got.toList := vals_ix (by rw [gl, List.length_map]) fun i x u e1 e2 => by
    rw [Array.getElem?_toList] at e2
    obtain ⟨hi, rfl⟩ := gg.2 i u e2
    rw [List.getElem?_map] at e1
    obtain ⟨b, e3, rfl⟩ := Option.map_eq_some_iff.mp e1
    exact ks i hi b e3
  obtain ⟨e1, e2⟩ := reads_all I2 vv hd
  refine wpAny_bind (wpAny_newList ?_ (fits gl))
  have lay := Heap.get?_push_size g (o := seqObj "list" got.toList.toArray 0) rfl
  show wpAny _ _ _ _ _ { s with heap := g.push (seqObj "list" got.toList.toArray 0), toks := tk }
  refine wpAny_bind (wpAny_holding (wpAny_call_entry slot_list_sort ⟨_, lay, rfl⟩ entry_list_sort ?_ (args_list_sort _)))
  have e3 : EachIs (fun u (b : VD) => ∃ as, Reads (sortingHeap (g.push (seqObj "list" got.toList.toArray 0)) g.objs.size got.toList) u b.2 as) got.toList bs := e2.mono fun _ _ ⟨as, r⟩ => ⟨as, PyProof.Rows.Reads.keeps (fun b o e => sortingHeap_old (Nat.ne_of_lt (Heap.lt_size e)) (Heap.get?_push_of_some _ e)) r⟩
  have e4 := sortVals_data (h' := sortingHeap (g.push (seqObj "list" got.toList.toArray 0)) g.objs.size got.toList) (enc := fun b : VD => b.2) false e1 e3 al
  refine list_sort_vals lay (SortsAt.data (s := { s with heap := sortingHeap (g.push (seqObj "list" got.toList.toArray 0)) g.objs.size got.toList, toks := tk }) (each_map (R := fun u dd => ∃ as, Reads (sortingHeap (g.push (seqObj "list" got.toList.toArray 0)) g.objs.size got.toList) u dd as) (fun b : VD => b.2) e3) al so (bound_map fun b hb => ?_)) (fits gl) ⟨_, rfl, ?_⟩
  · have := dep b hb
    show X.A.units + 2 + b.2.depth < cLine
    omega
  obtain ⟨c, at1⟩ := sortedHeap_at (vs := got.toList) (out := (sortVals (dataKind (sortingHeap (g.push (seqObj "list" got.toList.toArray 0)) g.objs.size got.toList) (bs.map fun b : VD => b.2)) false got.toList got.toList).toArray) lay
  have inl := fits (show ((bs.mergeSort (dataLe false (fun b : VD => b.2))).map (·.1)).length = bs.length by rw [List.length_map, List.length_mergeSort])
  refine wpAny_pure ⟨_, rfl, .ref g.objs.size, upd H g.objs.size (.lst ((bs.mergeSort (dataLe false (fun b : VD => b.2))).map (·.1))), I2.laid (t' := tk) (fun b x e => ?_) (Nat.le_refl _)
      (show ObjOk X.prog X.w _ _ _ (.lst ((bs.mergeSort (dataLe false (fun b : VD => b.2))).map (·.1))) from ⟨inl, _, c, vals_each e4, at1⟩), rfl, q _ (I2.hok.fresh (Nat.le_refl _))⟩
  have less := Heap.lt_size e
  rw [sortedHeap_old (Nat.ne_of_lt less) (by rw [size_push']; exact Nat.lt_succ_of_lt less)]
  exact Heap.get?_push_of_some _ e
end
/-- sorted items stay as they stand -/
theorem sort_stays {bs : List VD} (h : bs.Pairwise fun x y => dataLt y.2 x.2 = false) : bs.mergeSort (dataLe false (·.2)) = bs :=
  List.mergeSort_of_pairwise (h.imp fun {a b} z => by
    show (!dataLt b.2 a.2) = true
    rw [z]
    rfl)
/-- sorted(d), the keys tuples of tuples, already in order: a new list of the keys -/
def rSortedN (P : Program) (w : World) (K : PySem.W.Frag) : List V → Hp → VK → Prop := fun vs H Q => ∃ (d : Addr) (xs : List (NestedKey × Addr × Value)) (bs : List VD), vs = [.ref d] ∧ H d = some (NdO P w d xs) ∧ (d == sysModules) = false ∧
  xs.map (fun z => V.ref z.2.1) = bs.map (·.1) ∧ (∀ b ∈ bs, Dp K H b.1 b.2) ∧ AllAlike (bs.map (·.2)) ∧ Sortable (bs.map (·.2)) ∧ bs.length ≤ 10000 ∧ (∀ b ∈ bs, b.2.depth ≤ 8) ∧ (bs.Pairwise fun x y => dataLt y.2 x.2 = false) ∧
  ∀ p, H p = none → Q (.ref p) (upd H p (.lst (bs.map (·.1))))
theorem cr_sortedN {X : Cx} (cm : X.calm = true) (hu : X.A.units + 64 < cLine) : CallR X (.builtin "sorted") (rSortedN X.prog X.w X.K) := by
  intro pins s σ H vs us Q I r h
  obtain ⟨d, xs, bs, rfl, e, lo, ek, hd, al, so, len, dep, srt, q⟩ := h
  obtain ⟨u0, rfl, ru⟩ := vals1 r
  cases ru
  obtain ⟨⟨o, es, ep, ho, hx, hdt, he, _⟩, _⟩ := I.hok d _ e
  have sz : es.size = xs.length := by
    rw [← Array.length_toList, he, List.length_map]
  have lx : xs.length = bs.length := by
    have := congrArg List.length ek
    rwa [List.length_map, List.length_map] at this
  refine sortedRaw I cm hu lo ⟨o, ho, hx, hdt⟩ (sz.trans lx) (fun i hi b hb => ?_) hd al so len dep (fun p hp => by rw [sort_stays srt]; exact q p hp)
  obtain ⟨z, hz⟩ : ∃ z, xs[i]? = some z := ⟨_, List.getElem?_eq_getElem (by omega)⟩
  have q1 : es.toList[i]? = some (entryOfKey (nestedKind X.prog X.w) z) := by rw [he, List.getElem?_map, hz]; rfl
  rw [Array.getElem?_toList, Array.getElem?_eq_getElem hi] at q1
  have q2 : es[i].key = .ref z.2.1 := by
    rw [Option.some.inj q1]
    rfl
  have q3 := congrArg (fun l => l[i]?) ek
  simp only [List.getElem?_map, hz, hb, Option.map_some] at q3
  rw [← Option.some.inj q3, q2]
  rfl
def dKey : Key → PyData
  | .inl i => .int i
  | .inr x => .str x
theorem dp_key {K : PySem.W.Frag} {H : Hp} : ∀ k : List Key, DpAll K H (k.map kV) (k.map dKey)
  | [] => .nil
  | .inl i :: k => .cons (.int i) (dp_key k)
  | .inr x :: k => .cons (.str x) (dp_key k)
def dKeys (k : List Key) : PyData := .tuple (k.map dKey)
/-- sorted(d), the keys flat tuples, already in order: a new list of the keys -/
def rSortedT : List V → Hp → VK → Prop := fun vs H Q => ∃ (d : Addr) (kvs : List (List Key × V)), vs = [.ref d] ∧ H d = some (.dT kvs) ∧
  AllAlike (kvs.map fun z => dKeys z.1) ∧ Sortable (kvs.map fun z => dKeys z.1) ∧ kvs.length ≤ 10000 ∧ (∀ z ∈ kvs, (dKeys z.1).depth ≤ 8) ∧ (kvs.Pairwise fun x y => dataLt (dKeys y.1) (dKeys x.1) = false) ∧
  ∀ (as : List Addr) p, as.length = kvs.length → (∀ (i : Nat) (a : Addr) (z : List Key × V), as[i]? = some a → kvs[i]? = some z → H a = some (.tup (z.1.map kV))) → H p = none → Q (.ref p) (upd H p (.lst (as.map V.ref)))
theorem paired_len {α β : Type} {R : α → β → Prop} : ∀ {xs : List α} {ys : List β}, Paired R xs ys → xs.length = ys.length
  | _, _, .nil => rfl
  | _, _, .cons _ t => congrArg (· + 1) (paired_len t)
theorem paired_ix {α β : Type} {R : α → β → Prop} : ∀ {xs : List α} {ys : List β}, Paired R xs ys → ∀ (i : Nat) x y, xs[i]? = some x → ys[i]? = some y → R x y
  | _, _, .nil, i, x, y, e, _ => by cases e
  | _, _, .cons h t, 0, x, y, e, e' => by
    cases e
    cases e'
    exact h
  | _, _, .cons h t, i + 1, x, y, e, e' => paired_ix t i x y e e'
theorem cr_sortedT {X : Cx} (cm : X.calm = true) (hu : X.A.units + 64 < cLine) : CallR X (.builtin "sorted") rSortedT := by
  intro pins s σ H vs us Q I r h
  obtain ⟨d, kvs, rfl, e, al, so, len, dep, srt, q⟩ := h
  obtain ⟨u0, rfl, ru⟩ := vals1 r
  cases ru
  obtain ⟨_, lo, xs, kt, dh⟩ := dt_of I.hok e
  obtain ⟨es, ep, raw, sz, at_⟩ := dh.raw
  have lx := paired_len kt
  let bs : List VD := (kvs.zip xs).map fun z => (V.ref z.2.2.1, dKeys z.1.1)
  have lb : bs.length = kvs.length := by
    show ((kvs.zip xs).map _).length = _
    rw [List.length_map, List.length_zip, ← lx, Nat.min_self]
  have at2 : ∀ (i : Nat) (b : VD), bs[i]? = some b → ∃ z x, kvs[i]? = some z ∧ xs[i]? = some x ∧ b = (V.ref x.2.1, dKeys z.1) := fun i b hb => by
    have hb' : ((kvs.zip xs).map fun z => (V.ref z.2.2.1, dKeys z.1.1))[i]? = some b := hb
    rw [List.getElem?_map] at hb'
    obtain ⟨z, hz, rfl⟩ := Option.map_eq_some_iff.mp hb'
    obtain ⟨h1, h2⟩ := List.getElem?_zip_eq_some.mp hz
    exact ⟨z.1, z.2, h1, h2, rfl⟩
  have e2 : bs.map (·.2) = kvs.map fun z => dKeys z.1 := by
    show ((kvs.zip xs).map _).map _ = _
    rw [List.map_map]
    have : (kvs.zip xs).map (fun z => dKeys z.1.1) = ((kvs.zip xs).map (·.1)).map fun z => dKeys z.1 := by
      rw [List.map_map]
      rfl
    rw [show (((fun b : VD => b.2) ∘ fun z : (List Key × V) × (List Key × Addr × Value) => ((V.ref z.2.2.1, dKeys z.1.1) : VD))) = fun z => dKeys z.1.1 from rfl, this, List.map_fst_zip (by omega)]
  have sb : bs.Pairwise fun x y => dataLt y.2 x.2 = false := by
    have z : (bs.map (·.2)).Pairwise fun x y => dataLt y x = false := by
      rw [e2]
      exact List.pairwise_map.mpr srt
    exact List.pairwise_map.mp z
  refine sortedRaw I cm hu lo raw (by rw [sz, ← lx, lb]) (fun i hi b hb => ?_) (fun b hb => ?_) (by rw [e2]; exact al) (by rw [e2]; exact so) (by omega) (fun b hb => ?_) (fun p hp => ?_)
  · obtain ⟨z, x, h1, h2, rfl⟩ := at2 i b hb
    obtain ⟨y, h3, h4, _⟩ := at_ i hi
    rw [h2] at h3
    cases h3
    rw [h4]
    rfl
  · obtain ⟨i, hb⟩ := List.getElem?_of_mem hb
    obtain ⟨z, x, h1, h2, rfl⟩ := at2 i b hb
    obtain ⟨_, h3, _⟩ := paired_ix kt i z x h1 h2
    exact .tup (SqT.of h3) (dp_key _)
  · obtain ⟨i, hb⟩ := List.getElem?_of_mem hb
    obtain ⟨z, x, h1, h2, rfl⟩ := at2 i b hb
    exact dep z (List.mem_of_getElem? h1)
  · rw [sort_stays sb]
    have e3 : bs.map (·.1) = (xs.map (·.2.1)).map V.ref := by
      show ((kvs.zip xs).map _).map _ = _
      rw [List.map_map, List.map_map]
      have : (kvs.zip xs).map (fun z => V.ref z.2.2.1) = ((kvs.zip xs).map (·.2)).map fun x => V.ref x.2.1 := by
        rw [List.map_map]
        rfl
      rw [show (((fun b : VD => b.1) ∘ fun z : (List Key × V) × (List Key × Addr × Value) => ((V.ref z.2.2.1, dKeys z.1.1) : VD))) = fun z => V.ref z.2.2.1 from rfl, this, List.map_snd_zip (by omega)]
      rfl
    rw [e3]
    refine q _ p (by rw [List.length_map]; exact lx.symm) (fun i a z h1 h2 => ?_) hp
    rw [List.getElem?_map] at h1
    obtain ⟨x, h3, rfl⟩ := Option.map_eq_some_iff.mp h1
    exact (paired_ix kt i z x h2 h3).2.1
end TCX
/-! Dicts whose keys are tuples: their items walked, comprehensions that make such dicts. -/
namespace TCX
open PySem PySem.Spec PyProof.Rows L2
section
variable {X : Cx} {pins : List (Addr × Obj)} {σ : L2.St} {H : Hp} {s : Shared} {d : Addr} {o : Obj}
/-- the entries of a locked dict of tuple keys, with their values -/
theorem frzTV {kvs : List (List Key × V)} (I : Inv X pins σ H s) (h : H d = some (.frz o (.dT kvs))) :
    (d == sysModules) = false ∧ ∃ (es : Array DictEntry) (ep : Nat), o.data = .dict es ep ∧ s.heap.DictRaw d es ep ∧ es.size = kvs.length ∧
      ∀ (i : Nat) (k : List Key) (v : V), kvs[i]? = some (k, v) → ∃ (hi : i < es.size) (q : Addr), es[i].key = .ref q ∧ H q = some (.tup (k.map kV)) ∧ RelV v es[i].val := by
  have hok := I.hok d _ h
  obtain ⟨g0, z, hs, xs, pr, o', es, ep, ho, hx, hdt, he, _⟩ := hok
  rw [g0] at ho
  cases ho
  have sz : es.size = kvs.length := by
    have l1 : es.size = xs.length := size_of_entries he
    have l2 : kvs.length = xs.length := Paired.length pr
    omega
  refine ⟨hs, es, ep, hdt, ⟨o, g0, hx, hdt⟩, sz, fun i k v e => ?_⟩
  obtain ⟨b, hb, e1, e2, e3⟩ := paired_get pr e
  have q := entry_at he i
  rw [hb] at q
  obtain ⟨hi, q2⟩ := Array.getElem?_eq_some_iff.mp q
  exact ⟨hi, b.2.1, by rw [q2] <;> rfl, e2, by rw [q2]; exact e3⟩
end
/-- for (k, v) of a locked dict of tuple keys: each time a new pair of the key's own tuple and its value -/
def Itit (d : Addr) (o : Obj) (kvs : List (List Key × V)) : It where
  go := fun i H => H d = some (.frz o (.dT kvs)) ∧ i < kvs.length
  yld := fun i H x H' => ∃ (T : Addr) (k : List Key) (v : V) (q : Addr), kvs[i]? = some (k, v) ∧ x = .ref T ∧ H T = none ∧ H q = some (.tup (k.map kV)) ∧ H' = upd H T (.tup [.ref q, v])
  stop := fun i H => H d = some (.frz o (.dT kvs)) ∧ kvs.length ≤ i
theorem turn_itemsT {P : Program} {w : World} {K : PySem.W.Frag} {d : Addr} {o : Obj} {kvs : List (List Key × V)} {elts : List Expr} {kk : Nat} {tpos : Pos} {ep : Nat} {es : Array DictEntry} (J : Addr) (dat : o.data = .dict es ep) (sz : es.size = kvs.length) :
    Turn P w K (.Tuple elts kk tpos) (Itit d o kvs) [J] J (fun i h => ∃ u1 u2, IsItemIter h J d i es.size ep u1 u2) := by
  have same : ∀ {es' : Array DictEntry} {ep' : Nat}, o.data = .dict es' ep' → es' = es ∧ ep' = ep := fun z => by
    rw [dat] at z
    cases z
    exact ⟨rfl, rfl⟩
  refine ⟨by simp, fun i h st b hb => ?_, fun i h h' st k => ?_, ?_, ?_, fun A i s Q E st h => ?_⟩
  · obtain rfl : b = J := by simpa using hb
    obtain ⟨u1, u2, e⟩ := st
    exact ⟨_, e, fun v z => nomatch z⟩
  · obtain ⟨u1, u2, e⟩ := st
    exact ⟨u1, u2, k J (by simp) _ e⟩
  · intro X h1 h2 h3 calm i pins s σ H E I fp st go
    subst h1 h2 h3
    obtain ⟨hd, hi⟩ := go
    obtain ⟨ns, es2, ep2, dat2, raw, _, ent⟩ := frzTV I hd
    obtain ⟨rfl, rfl⟩ := same dat2
    obtain ⟨⟨k, v⟩, hkv⟩ : ∃ p, kvs[i]? = some p := ⟨kvs[i], List.getElem?_eq_getElem hi⟩
    obtain ⟨hi2, q, ek, eq, ev⟩ := ent i k v hkv
    obtain ⟨u1, u2, hit⟩ := st
    have lt : J < s.heap.objs.size := Heap.lt_size hit
    refine wpAny_pyNext_items_item_raw hit raw hi2 fun g1 out new1 _ kp => ⟨_, rfl, wpAny_letOwnedTupleGo_items (s := { s with heap := g1 }) out fun g2 hit2 sb => ?_⟩
    have new2 := (sb.2 _ (Nat.ne_of_gt lt)).trans new1
    have ok2 : ObjOk X.prog X.w (upd H s.heap.objs.size (.tup [.ref q, v])) g2 s.heap.objs.size (.tup [.ref q, v]) :=
      ⟨by show 2 ≤ sizeLine; decide, [es2[i].key, es2[i].val], .cons ek (.cons ev .nil), ⟨_, new2, rfl, _, rfl⟩⟩
    have I2 := I.turnedNew (t' := s.toks) (ch := [J]) (fun b ob hb e => (sb.2 b (by simpa using hb)).trans (kp b ob (by simpa using hb) e)) fp (Nat.le_refl _) ok2
    refine ⟨.ref s.heap.objs.size, _, I2, rfl, ⟨_, k, v, q, hkv, rfl, I.hok.fresh (Nat.le_refl _), eq, rfl⟩, ⟨_, _, hit2⟩, fun b hb => ?_⟩
    obtain rfl : b = J := by simpa using hb
    rw [upd_ne (Nat.ne_of_lt lt)]
    exact (fp b (by simp)).1
  · intro X h1 h2 h3 calm i pins s σ H E I fp st stop
    subst h1 h2 h3
    obtain ⟨hd, hi⟩ := stop
    obtain ⟨f0, f1, f2, f3, f4, f5⟩ := fp J (by simp)
    obtain ⟨ns, es2, ep2, dat2, raw, _, ent⟩ := frzTV I hd
    obtain ⟨rfl, rfl⟩ := same dat2
    obtain ⟨u1, u2, hit⟩ := st
    exact wpAny_pyNext_items_end_raw (I.ok.hd calm) hit raw (by omega) fun g eb => ⟨rfl, I.turned (t' := s.toks) (fun b ob hb e => eb b ob hb e) f0 f1 f3 f4 f5⟩
  · obtain ⟨_, _, e⟩ := st
    exact PySem.W.kcp_self e h
/-- d.items() of a locked dict of tuple keys -/
def iItemsT (td : TE) : TI := fun σ H R => td σ H fun x H1 => ∃ d o kvs, x = .ref d ∧ H1 d = some (.frz o (.dT kvs)) ∧ R (Itit d o kvs) H1
theorem pi_itemsT {X : Cx} {e : Expr} {td : TE} {apos cpos : Pos} {elts : List Expr} {kk : Nat} {tpos : Pos} (he : PE X e td) (hb : attributeBase e "items" X.env (eval e X.env) = eval e X.env := by rfl) (hl : (apos.endLine == cpos.line) = true := by rfl) :
    PI X (.Tuple elts kk tpos) (.Call (.Attribute e "items" apos) [] [] cpos) (iItemsT td) := by
  refine ⟨fun pins s σ H R I h => wpAny_Call_method (T := "dict") (id := "dict.items") hb rfl hl F.plainAttrs_dict F.slot_dict_items F.type_dict_items (thn (he.run pins s σ H _ I h) fun u s1 z => ?_)⟩
  obtain ⟨x, H1, I1, rx, d, o, kvs, ex, hd, q⟩ := z
  subst ex
  obtain rfl : u = Value.ref d := rx
  obtain ⟨ns, es, ep, dat, raw, sz, _⟩ := frzTV I1 hd
  obtain ⟨ob, ho, hx, hdat⟩ := id raw
  refine ⟨⟨ob, ho, hx.1⟩, fun ob' ho' => ?_, ?_⟩
  · cases ho'
    exact ⟨ob, ho, hx.2.1⟩
  have I2 : Inv X pins σ H1 { s1 with heap := s1.heap.push { cls := .type "dict_items", data := .fields #[.ref d] } } := I1.kept (t' := s1.toks) fun b ob q => Heap.get?_push_of_some _ q
  have raw2 : (s1.heap.push { cls := .type "dict_items", data := .fields #[.ref d] }).DictRaw d es ep := ⟨ob, Heap.get?_push_of_some _ ho, hx, hdat⟩
  have fin : wpAny (model X.prog X.w) X.A (pyIter (.ref s1.heap.objs.size)) (PIE X pins σ (.Tuple elts kk tpos) R) X.xe { s1 with heap := s1.heap.push { cls := .type "dict_items", data := .fields #[.ref d] } } :=
    wpAny_pyIter_items_raw (d := d) ⟨_, Heap.get?_push_size _ rfl, rfl, rfl⟩ raw2 (pi_one (tk := s1.toks) I2 _ (turn_itemsT _ dat sz) ⟨.none, .none, Heap.get?_push_size _ rfl⟩ q)
  exact method_meetsIn F.slot_dict_items F.entry_dict_items rfl (PySem.evalArgs_none ⟨rfl, ⟨ob, ho, hx.1⟩, F.args_dict_items_1 _, _, meets_dict_items_raw d ns, ⟨es, ep, raw⟩, fin⟩)
end TCX
/-! Dicts whose keys are tuples: == and != of two that hold the same, values() walked and summed, clear(). -/
namespace TCX
open PySem PySem.Spec PyProof.Rows L2 PySem.W
section
variable {prog : Program} {w : World} {K : Type} [DecidableEq K] {knd : HeapKind prog w K} {A : Around} {E : Value → Shared → Prop} {s : Shared}
theorem samePairsH {nm : String} {a b : Addr} {ka kb : List (K × Addr × Value)} {Q : Bool → Shared → Prop} (hu : knd.room A) (ha : (a == sysModules) = false) (hb : (b == sysModules) = false)
    (da : s.heap.DictOfH knd a ka) (db : s.heap.DictOfH knd b kb) (hl : ka.length = kb.length) (hits : ∀ x ∈ ka, ∃ p, atKey kb x.1 = some p ∧ SeqAt.EqAt A s x.2.2 p.2 true) (h : Q true s) :
    wpAny (model prog w) A (Builtin.Dict.samePairs nm a b) Q E s := by
  obtain ⟨oa, es, ep, hoa, _, hda, hea, hia, hna⟩ := da
  obtain ⟨ob, es', ep', hob, _, hdb, heb, hib, hnb⟩ := db
  have hla := size_of_entries hea
  have hlb := size_of_entries heb
  have hsz : es.size = es'.size := by omega
  unfold Builtin.Dict.samePairs Builtin.Dict.showsAll
  rw [if_neg (show ¬ (a == sysModules) = true by rw [ha]; exact Bool.false_ne_true), if_neg (show ¬ (b == sysModules) = true by rw [hb]; exact Bool.false_ne_true)]
  refine wpAny_bind (wpAny_pure (wpAny_bind (wpAny_pure ?_)))
  refine wpAny_bind (wpAny_dictEntries hoa hda ?_)
  dsimp only
  refine wpAny_bind (wpAny_dictEntries hob hdb ?_)
  rw [if_neg (by rw [hsz]; simp)]
  refine wpAny_bind (wpAny_dictEpoch hoa hda ?_)
  refine wpAny_bind ?_
  rw [Std.Legacy.Range.forIn_eq_forIn_range']
  simp only [Std.Legacy.Range.size, Nat.sub_zero, Nat.add_sub_cancel, Nat.div_one]
  refine wpAny_forIn_list _
    (fun rest q s' => s' = s ∧ q = (none, ()) ∧ ∃ i, rest = List.range' i (es.size - i) ∧ i ≤ es.size)
    _ ?_ ?_ _ _ ⟨rfl, rfl, 0, by simp, Nat.zero_le _⟩
  · rintro x rest q s' ⟨rfl, rfl, i, hr, hi⟩
    have hlt : i < es.size := by
      rcases Nat.lt_or_ge i es.size with h | h
      · exact h
      · rw [Nat.sub_eq_zero_of_le h] at hr; simp at hr
    obtain ⟨rfl, hrest⟩ : x = i ∧ rest = List.range' (i + 1) (es.size - (i + 1)) := by
      have e : es.size - i = (es.size - (i + 1)) + 1 := by omega
      rw [e, List.range'_succ] at hr
      injection hr with h1 h2
      exact ⟨h1, h2⟩
    refine wpAny_bind (wpAny_dictEntries hoa hda ?_)
    rw [Array.getElem?_eq_getElem hlt]
    have hlt' : x < ka.length := by rw [← hla]; exact hlt
    have ez : es[x] = entryOfKey knd ka[x] := by
      have q := entry_at hea x
      rw [Array.getElem?_eq_getElem hlt, List.getElem?_eq_getElem hlt'] at q
      exact Option.some.inj q
    have hm := List.getElem_mem hlt'
    obtain ⟨p, hp, heq⟩ := hits _ hm
    show wpAny _ _ (holding [es[x].key, es[x].val] _ >>= _) _ _ _
    rw [ez]
    generalize ka[x] = z at hm hp heq
    obtain ⟨k, az, v⟩ := z
    refine wpAny_bind (wpAny_holding (wpAny_bind (wpAny_dictFind_heap (knd := knd) (k := k) (a := az) hu (hia _ hm) hob hdb heb hib hnb ?_ ?_)))
    · intro hno
      rw [atKey_none_of_get hno] at hp
      cases hp
    · intro j p' hj
      rw [atKey_of_get hnb hj] at hp
      obtain rfl := Option.some.inj hp
      have ej := entry_at heb j
      rw [hj] at ej
      have hjlt : j < es'.size := (Array.getElem?_eq_some_iff.mp ej).1
      refine wpAny_bind (wpAny_dictEntries hob hdb ?_)
      rw [ej]
      refine wpAny_holding (heq prog w _ _ ?_)
      show wpAny _ _ (if (!true) = true then _ else _) _ _ _
      rw [if_neg (by decide)]
      refine wpAny_bind (wpAny_dictEpoch hoa hda ?_)
      rw [if_neg (by simp)]
      exact wpAny_pure ⟨rfl, rfl, x + 1, hrest, hlt⟩
  · rintro q s' ⟨rfl, rfl, i, hr, hi⟩
    exact wpAny_pure h
theorem neH {a b : Addr} {ka kb : List (K × Addr × Value)} {Q : Value → Shared → Prop} (hu : knd.room A.in1) (hu0 : A.units < cLine) (ha : (a == sysModules) = false) (hb : (b == sysModules) = false)
    (da : s.heap.DictOfH knd a ka) (db : s.heap.DictOfH knd b kb) (hl : ka.length = kb.length) (hits : ∀ x ∈ ka, ∃ p, atKey kb x.1 = some p ∧ SeqAt.EqAt A.in1 s x.2.2 p.2 true) (h : Q (.bool false) s) :
    wpAny (model prog w) A (compareOp .NotEq (.ref a) (.ref b)) Q E s := by
  refine wpAny_richCompare_same_room (op := .NotEq) da.typeIs db.typeIs PySem.F.slot_dict_ne (wpAny_call_entry PySem.F.slot_dict_ne da.typeIs PySem.F.entry_dict_ne ?_ (PySem.F.args_dict_ne_2 _ _)) hu0
  show wpAny _ _ (Builtin.Dict.dictSlotArgs "__ne__" ⟨[.ref a, .ref b], []⟩ >>= _) _ _ s
  refine wpAny_bind ?_
  unfold Builtin.Dict.dictSlotArgs
  refine wpAny_bind (wpAny_notOrdered_dict da.typeIs ?_)
  show wpAny _ _ (pure (Value.ref a, Value.ref b)) _ _ s
  refine wpAny_pure ?_
  refine wpAny_bind (wpAny_isInstance (T := "dict") db.typeIs PySem.F.sub_dict_dict ?_)
  simp only [Bool.not_true, Bool.false_eq_true, if_false]
  refine wpAny_bind (wpAny_pure (wpAny_bind (wpAny_pure ?_)))
  refine wpAny_bind (samePairsH hu ha hb da db hl hits ?_)
  refine wpAny_pure ⟨_, rfl, ?_, ?_⟩
  · exact fun x => nomatch x
  · simpa using h
end
section
variable {X : Cx}
/-- != of two dicts of tuple keys with flat values that hold the same -/
def rNeTT : R2 := fun x y H Q => ∃ a b ks ls, x = .ref a ∧ y = .ref b ∧ H a = some (.dT ks) ∧ H b = some (.dT ls) ∧ ks.length = ls.length ∧ (∀ p ∈ ks, valV ls p.1 = some p.2 ∧ flatB p.2 = true) ∧ Q (.bl false) H
theorem op_neTT (hu : X.A.units + 64 < cLine) : OpR X (compareOp .NotEq) rNeTT := by
  intro pins s σ H x y v u Q I rx ry h
  obtain ⟨a, b, ks, ls, rfl, rfl, ea, eb, hlen, hp, q⟩ := h
  obtain rfl : v = Value.ref a := rx
  obtain rfl : u = Value.ref b := ry
  obtain ⟨_, ya, va, ra, da⟩ := dt_of I.hok ea
  obtain ⟨_, yb, vb, rb, db⟩ := dt_of I.hok eb
  have l1 : ks.length = va.length := Paired.length ra
  have l2 : ls.length = vb.length := Paired.length rb
  refine neH (knd := tupleKind (mixKind X.prog X.w)) ?_ (by omega) ya yb da db (by omega) (fun z hz => ?_) (fin_bl I q rfl)
  · exact tupleKind_room_in1 (by omega)
  · obtain ⟨i, hi⟩ := List.getElem?_of_mem hz
    have lt : i < ks.length := by
      have := (List.getElem?_eq_some_iff.mp hi).1
      omega
    obtain ⟨z', hz', e1, e2, e3⟩ := paired_get ra (List.getElem?_eq_getElem lt)
    rw [hi] at hz'
    obtain rfl := Option.some.inj hz'
    obtain ⟨h1, h2⟩ := hp _ (List.getElem_mem lt)
    have rr := KT.val rb z.1
    rw [← e1, h1] at rr
    obtain ⟨y, hy, ry⟩ := rr.some_of
    rw [Option.map_eq_some_iff] at hy
    obtain ⟨p, hp1, hp2⟩ := hy
    refine ⟨p, by rw [← e1]; exact hp1, ?_⟩
    rw [hp2]
    exact eqAt_same e3 ry h2
end
/-! ### values() -/
/-- the values of a locked dict of tuple keys -/
def Itdt (d : Addr) (o : Obj) (kvs : List (List Key × V)) : It :=
  ⟨fun i H => H d = some (.frz o (.dT kvs)) ∧ i < kvs.length, fun i H x H' => H' = H ∧ ∃ k, kvs[i]? = some (k, x), fun i H => H d = some (.frz o (.dT kvs)) ∧ kvs.length ≤ i⟩
theorem turn_valsT {P : Program} {w : World} {K : PySem.W.Frag} {tg : Expr} {d : Addr} {o : Obj} {kvs : List (List Key × V)} {ep : Nat} {es : Array DictEntry} (J : Addr) (dat : o.data = .dict es ep) (sz : es.size = kvs.length) :
    Turn P w K tg (Itdt d o kvs) [J] J (fun i h => h.IsValIter J d i es.size ep) where
  mem := by simp
  obj := fun i h st b hb => by
    have e : b = J := by simpa using hb
    subst e
    obtain ⟨oi, e, c, dd⟩ := st
    exact ⟨oi, e, fun v z => by rw [dd] at z; cases z⟩
  keep := fun i h h' st k => st.at fun oi e => k J (by simp) oi e
  item := by
    intro X hP hw hK hc i pins s σ H E I hf st hg
    subst hP hw hK
    obtain ⟨hd, hi⟩ := hg
    obtain ⟨f0, f1, f2, f3, f4, f5⟩ := hf J (by simp)
    obtain ⟨ns, es2, ep2, dat2, raw, _, ent⟩ := frzTV I hd
    obtain ⟨rfl, rfl⟩ := dict_ep dat dat2
    obtain ⟨⟨k, v⟩, hkv⟩ : ∃ p, kvs[i]? = some p := ⟨kvs[i], List.getElem?_eq_getElem hi⟩
    obtain ⟨hi2, q, ek, eq, ev⟩ := ent i k v hkv
    refine wpAny_pyNext_values_item_raw st raw hi2 fun h' st' sb => ?_
    have I1 : Inv X pins σ H { s with heap := h' } := I.turned (t' := s.toks) (fun b ob hb e => (sb.2 b hb).trans e) f0 f1 f3 f4 f5
    obtain ⟨oi, e, c, dd⟩ := id st'
    exact ⟨_, rfl, go_of (s := { s with heap := h' }) e c dd (by decide) ⟨v, H, I1, ev, ⟨rfl, k, hkv⟩, st', fun b hb => (hf b hb).1⟩⟩
  done := by
    intro X hP hw hK hc i pins s σ H E I hf st hg
    subst hP hw hK
    obtain ⟨hd, hi⟩ := hg
    obtain ⟨f0, f1, f2, f3, f4, f5⟩ := hf J (by simp)
    obtain ⟨ns, es2, ep2, dat2, raw, _, ent⟩ := frzTV I hd
    obtain ⟨rfl, rfl⟩ := dict_ep dat dat2
    exact wpAny_pyNext_values_end_raw (I.ok.hd hc) st raw (by omega) fun g eb => ⟨rfl, I.turned (t' := s.toks) (fun b ob hb e => eb b ob hb e) f0 f1 f3 f4 f5⟩
  self := fun A i s Q E st h => wpAny_pyIter_valiter st h
def iValsT (td : TE) : TI := fun σ H R => td σ H fun x H1 => ∃ d o kvs, x = .ref d ∧ H1 d = some (.frz o (.dT kvs)) ∧ R (Itdt d o kvs) H1
section
variable {X : Cx} {tg e : Expr} {td : TE} {apos cpos : Pos}
theorem pi_valuesT (he : PE X e td) (hbase : attributeBase e "values" X.env (eval e X.env) = eval e X.env := by rfl) (hline : (apos.endLine == cpos.line) = true := by rfl) : PI X tg (.Call (.Attribute e "values" apos) [] [] cpos) (iValsT td) := by
  refine ⟨fun pins s σ H R I h => wpAny_Call_method (T := "dict") (id := "dict.values") hbase rfl hline F.plainAttrs_dict F.slot_dict_values F.type_dict_values (thn (he.run pins s σ H _ I h) fun u s1 z => ?_)⟩
  obtain ⟨x, H1, I1, rx, d, o, kvs, ex, hd, q⟩ := z
  subst ex
  obtain rfl : u = Value.ref d := rx
  obtain ⟨ns, es, ep, dat, raw, sz, _⟩ := frzTV I1 hd
  obtain ⟨ob, ho, hx, hdat⟩ := id raw
  refine ⟨⟨ob, ho, hx.1⟩, fun ob' ho' => ?_, ?_⟩
  · cases ho'
    exact ⟨ob, ho, hx.2.1⟩
  have I2 : Inv X pins σ H1 { s1 with heap := s1.heap.push { cls := .type "dict_values", data := .fields #[.ref d] } } := I1.kept (t' := s1.toks) fun b ob q => Heap.get?_push_of_some _ q
  have raw2 : (s1.heap.push { cls := .type "dict_values", data := .fields #[.ref d] }).DictRaw d es ep := ⟨ob, Heap.get?_push_of_some _ ho, hx, hdat⟩
  have fin : wpAny (model X.prog X.w) X.A (pyIter (.ref s1.heap.objs.size)) (PIE X pins σ tg R) X.xe { s1 with heap := s1.heap.push { cls := .type "dict_values", data := .fields #[.ref d] } } :=
    wpAny_pyIter_values_raw (d := d) ⟨_, Heap.get?_push_size _ rfl, rfl, rfl⟩ raw2 (pi_one (tk := s1.toks) I2 _ (turn_valsT _ dat sz) ⟨_, Heap.get?_push_size _ rfl, rfl, rfl⟩ q)
  exact method_meetsIn F.slot_dict_values F.entry_dict_values rfl (PySem.evalArgs_none ⟨rfl, ⟨ob, ho, hx.1⟩, F.args_dict_values_1 _, _, meets_dict_values_raw d ns, ⟨es, ep, raw⟩, fin⟩)
end
theorem walk_valuesT {d : Addr} {o : Obj} {kvs : List (List Key × V)} : Walk (Itdt d o kvs) kvs.length (fun H => H d = some (.frz o (.dT kvs))) (fun i H x H' => H' = H ∧ ∃ k, kvs[i]? = some (k, x)) :=
  ⟨fun _ _ hi q => ⟨q, hi⟩, fun _ q => ⟨q, Nat.le_refl _⟩, fun _ _ _ _ _ _ y => y⟩
/-! ### clear() -/
def rTClear : V → List V → Hp → VK → Prop := fun x vs H Q => ∃ (a : Addr) (kvs : List (List Key × V)), x = .ref a ∧ vs = [] ∧ H a = some (.dT kvs) ∧ Q .non (upd H a (.dT []))
theorem mtt_clear {X : Cx} : MtR X "dict.clear" rTClear := by
  intro pins s σ H x vs v us Q I rx rv h
  obtain ⟨a, kvs, ex, ev, e, q⟩ := h
  subst ex
  subst ev
  obtain rfl : v = Value.ref a := rx
  have hus := rv.zero
  subst hus
  obtain ⟨z, hd, xs, rel, dd⟩ := dt_of I.hok e
  obtain ⟨es, ep, raw, sz, _⟩ := Heap.DictOfH.raw dd
  have l1 : kvs.length = xs.length := Paired.length rel
  refine call_meetsIn PySem.F.slot_dict_clear dd.typeIs PySem.F.entry_dict_clear (PySem.F.args_dict_clear_1 _) (meets_dict_clear_raw a) ⟨es, ep, raw, by omega, fun h' dd' hs => ?_⟩
  obtain ⟨q', hq', hx', hdat'⟩ := dd'
  refine ⟨.non, _, d_write (t' := s.toks) (ob := .dT []) I (by rw [e]; exact True.intro) hs ⟨q', hq'⟩ ?_, rfl, q⟩
  exact ⟨Nat.zero_le _, hd, [], .nil, q', #[], ep + 1, hq', hx', hdat', rfl, List.nodup_nil⟩
section
variable {X : Cx} {o : Expr} {to : TE} {apos cpos : Pos}
theorem pe_tclear (ho : PE X o to) (hbase : attributeBase o "clear" X.env (eval o X.env) = eval o X.env := by rfl) (hline : (apos.endLine == cpos.line) = true := by rfl) : PE X (.Call (.Attribute o "clear" apos) [] [] cpos) (tBM0 X.K "dict" rTClear to) :=
  pe_bm0 PySem.F.plainAttrs_dict PySem.F.slot_dict_clear PySem.F.type_dict_clear mtt_clear ho hbase hline
end
/-! ### sum(d.values()) -/
theorem preSum_take (f : Nat → Int) (ns : List Int) (h : ∀ i, i < ns.length → f i = ns.getD i 0) : ∀ n, n ≤ ns.length → preSum f n = (ns.take n).sum
  | 0, _ => by simp [preSum]
  | n + 1, hn => by
    rw [preSum, preSum_take f ns h n (by omega), h n (by omega), List.take_add_one, List.sum_append, List.getElem?_eq_getElem (by omega), List.getD_eq_getElem?_getD, List.getElem?_eq_getElem (by omega)]
    simp
def viewT (p d : Addr) : HO := .ext fun h => h.get? p = some { cls := .type "dict_values", data := .fields #[.ref d] }
def tValsT (td : TE) : TE := fun σ H Q => td σ H fun x H1 => ∃ a kvs, x = .ref a ∧ H1 a = some (.dT kvs) ∧ ∀ p, H1 p = none → Q (.ref p) (upd H1 p (viewT p a))
theorem pe_valsT {X : Cx} {e : Expr} {td : TE} {apos cpos : Pos} (he : PE X e td) (hbase : attributeBase e "values" X.env (eval e X.env) = eval e X.env := by rfl) (hline : (apos.endLine == cpos.line) = true := by rfl) : PE X (.Call (.Attribute e "values" apos) [] [] cpos) (tValsT td) := by
  refine ⟨fun pins s σ H Q I h => wpAny_Call_method (T := "dict") (id := "dict.values") hbase rfl hline F.plainAttrs_dict F.slot_dict_values F.type_dict_values (thn (he.run pins s σ H _ I h) fun u s1 z => ?_)⟩
  obtain ⟨x, H1, I1, rx, d, kvs, ex, hd, q⟩ := z
  subst ex
  obtain rfl : u = Value.ref d := rx
  obtain ⟨_, ns, xs, rel, dd⟩ := dt_of I1.hok hd
  obtain ⟨es, ep, raw, _, _⟩ := Heap.DictOfH.raw dd
  obtain ⟨ob, ho, hx, hdat⟩ := id raw
  refine ⟨⟨ob, ho, hx.1⟩, fun ob' ho' => ?_, ?_⟩
  · cases ho'
    exact ⟨ob, ho, hx.2.1⟩
  have fin : EP X pins σ Q (.ref s1.heap.objs.size) { s1 with heap := s1.heap.push { cls := .type "dict_values", data := .fields #[.ref d] } } :=
    ⟨.ref s1.heap.objs.size, _, I1.laid (t' := s1.toks) (fun b o q => Heap.get?_push_of_some _ q) (Nat.le_refl _) (show ObjOk X.prog X.w _ _ _ (viewT s1.heap.objs.size d) from ⟨Heap.get?_push_size _ rfl, ⟨_, Heap.get?_push_size _ rfl⟩, fun h1 h2 q k => k _ q⟩), rfl, q _ (I1.hok.fresh (Nat.le_refl _))⟩
  exact method_meetsIn F.slot_dict_values F.entry_dict_values rfl (PySem.evalArgs_none ⟨rfl, ⟨ob, ho, hx.1⟩, F.args_dict_values_1 _, _, meets_dict_values_raw d ns, ⟨es, ep, raw⟩, fin⟩)
def rSumVT : List V → Hp → VK → Prop := fun xs H Q => ∃ (p a : Addr) (kvs : List (List Key × V)) (ns : List Int), xs = [.ref p] ∧ H p = some (viewT p a) ∧ H a = some (.dT kvs) ∧ kvs.map Prod.snd = ns.map V.int ∧ Q (.int ns.sum) H
theorem cr_sumVT {X : Cx} (hc : X.calm = true) : CallR X (.builtin "sum") rSumVT := by
  intro pins s σ H xs us Q I rx h
  obtain ⟨p, a, kvs, ns, rfl, hp, hd, hns, q⟩ := h
  rw [Vals.ref1 rx]
  have hv : s.heap.get? p = some { cls := .type "dict_values", data := .fields #[.ref a] } := (show ObjOk X.prog X.w H s.heap p (viewT p a) from I.hok p _ hp).1
  obtain ⟨_, sm, xs, rel, dd⟩ := dt_of I.hok hd
  obtain ⟨es, ep, raw, sz, ent⟩ := Heap.DictOfH.raw dd
  have l1 : kvs.length = xs.length := Paired.length rel
  have l2 : kvs.length = ns.length := by
    have e := congrArg List.length hns
    rw [List.length_map, List.length_map] at e
    exact e
  have lt := raw.lt_size
  refine call_sum_walkG (wpAny_pyIter_values_raw (d := a) ⟨_, hv, rfl, rfl⟩ raw ?_)
  refine ⟨s.heap.objs.size, _, _, _, _, _, fun i => ns.getD i 0, rfl, Walks.rawValues (A := X.A.in1) (show X.A.in1.handled = none from I.ok.hd hc) _ a (Nat.ne_of_lt lt) es ep, ⟨⟨_, Heap.get?_push_size _ rfl, rfl, rfl⟩, raw.push _⟩, fun b hb => ?_, fun i v hP => ?_, fun h' tk t' hk => ?_⟩
  · simp only [List.mem_cons, List.not_mem_nil, or_false] at hb
    rcases hb with rfl | rfl
    · show _ < (s.heap.push _).objs.size
      rw [size_push']
      exact Nat.lt_succ_self _
    · show _ < (s.heap.push _).objs.size
      rw [size_push']
      exact Nat.lt_succ_of_lt lt
  · obtain ⟨hi, rfl⟩ := hP
    have hi2 : i < kvs.length := by omega
    obtain ⟨y, hy, _, ev, _⟩ := ent i hi
    obtain ⟨y', hy', _, _, e3⟩ := paired_get rel (List.getElem?_eq_getElem hi2)
    rw [hy] at hy'
    obtain rfl := Option.some.inj hy'
    have e2 : kvs[i].2 = V.int (ns.getD i 0) := by
      have z : (kvs.map Prod.snd)[i]? = (ns.map V.int)[i]? := by rw [hns]
      rw [List.getElem?_map, List.getElem?_map, List.getElem?_eq_getElem hi2, List.getElem?_eq_getElem (by omega)] at z
      rw [List.getD_eq_getElem?_getD, List.getElem?_eq_getElem (by omega)]
      exact Option.some.inj z
    rw [e2] at e3
    obtain ⟨t, e4⟩ := (show ∃ t, y.2.2 = Value.int (ns.getD i 0) t from e3)
    exact ⟨t, ev.trans e4⟩
  · have e : preSum (fun i => ns.getD i 0) es.size = ns.sum := by
      rw [preSum_take _ ns (fun _ _ => rfl) _ (by omega), List.take_of_length_le (by omega)]
    rw [e]
    refine ⟨.int _, H, I.kept (t' := tk) fun b o hb => hk b o (fun hm => ?_) (Heap.get?_push_of_some _ hb), ⟨_, rfl⟩, q⟩
    simp only [List.mem_cons, List.not_mem_nil, or_false] at hm
    exact absurd (Heap.lt_size hb) (by rw [hm]; exact Nat.lt_irrefl _)
end TCX
/-! isinstance of a kept exception and a tuple of classes; promises joined. -/
namespace TCX
open PySem PySem.Spec PyProof.Rows L2
section
variable {X : Cx}
def rIsVT (K : PySem.W.Frag) : List V → Hp → VK → Prop := fun xs H Q => ∃ (a D tp : Addr) (cs : List V) (us : List Value) (b : Bool), xs = [.ref a, .ref tp] ∧ H a = some (ExV (.ref D) none a) ∧ ExcC K D ∧ H tp = some (.tup cs) ∧ Paired ClsV cs us ∧ PySem.W.kitAny K (.ref D) us = some b ∧ Q (.bl b) H
theorem call_isVT : CallR X (.builtin "isinstance") (rIsVT X.K) := by
  intro pins s σ H xs us Q I r h
  obtain ⟨a, D, tp, cs, ws, b, rfl, hH, C, hT, k, e, q⟩ := h
  obtain ⟨u1, u2, rfl, r1, r2⟩ := vals2 r
  cases (show u2 = Value.ref tp from r2)
  cases (show u1 = Value.ref a from r1)
  obtain ⟨oe, J⟩ := inst_of I hH
  obtain ⟨_, its, rv, o, h1, h2, n, h3⟩ := (show ObjOk X.prog X.w H s.heap tp (.tup cs) from I.hok tp _ hT)
  have e3 := ClsV.all k rv
  subst e3
  obtain ⟨oc, od, dt, sl⟩ := o
  simp only at h2 h3
  subst h2 h3
  exact PySem.W.kia_tup (PySem.W.handS_kitx_exc C.hg C.hk C.hs C.hd C.ha C.hn C.ht C.hm) I.kIn J h1 e (fun z => nomatch z) fun tk => ⟨.bl b, H, I.tok tk, rfl, q⟩
end
section
variable {P : Program} {w : World} {K : PySem.W.Frag} {mg : Str → Option Value} {base : Heap} {k : Nat} {f : Addr} {fd : FuncData} {ps : List Str} {sp sq : Sp}
/-- a def that lets nothing out may be asked where something might -/
theorem lift0 (F : FnOk P w K mg base CX0 k f fd ps sp) : FnOk P w K mg base (L2.CX P w) k f fd ps sp := by
  refine ⟨F.len, fun A outer s H args us vs Q E hr he hb hv hs => codeAny_mono (F.run A outer s H args us vs Q E hr he hb hv hs) fun r s' hq => ?_⟩
  match r, hq with
  | .error u, hq => exact (show False from hq).elim
  | .ok (.ret u), hq => exact hq
  | .ok .next, hq => exact hq
  | .ok .brk, hq => exact hq
  | .ok .cont, hq => exact hq
/-- two promises of one def -/
theorem both {CX : CXT} (F : FnOk P w K mg base CX k f fd ps sp) (G : FnOk P w K mg base CX k f fd ps sq) : FnOk P w K mg base CX k f fd ps (fun vs H Q E => sp vs H Q E ∨ sq vs H Q E) := by
  refine ⟨fun vs H Q E h => h.elim (F.len vs H Q E) (G.len vs H Q E), fun A outer s H args us vs Q E hr he hb hv hs => ?_⟩
  rcases hs with h | h
  · exact F.run A outer s H args us vs Q E hr he hb hv h
  · exact G.run A outer s H args us vs Q E hr he hb hv h
end
end TCX
/-! (one of a list of defs)(e, ..): the def is what the subscript gives. -/
namespace TCX
open PySem PySem.Spec PyProof.Rows L2
theorem eval_callSub (o i : Expr) (p2 : Pos) (args : List Expr) (keywords : List Keyword) (pos : Pos) (env : Env) : eval (.Call (.Subscript o i p2) args keywords pos) env = (do
    callWith pos (← eval (.Subscript o i p2) env) [] (backTo pos (starEach args env)) (backToKw pos (keywordEach keywords env))) := rfl
/-- the def at f with its promise, what it may let out, its parameters -/
structure HeldX (P : Program) (w : World) (K : PySem.W.Frag) (mg : Str → Option Value) (base : Heap) (k : Nat) (f : Addr) (sp : Sp) : Prop where
  ex : ∃ (fd : FuncData) (ps : List Str), FnOk P w K mg base (L2.CX P w) k f fd ps sp ∧ PySem.W.keepIn K (.ref f) = true ∧ L2.Binds K fd ps []
section
variable {X : Cx} {k : Nat} {E : XK} {o i : Expr} {p2 pos : Pos} {e : Expr} {es : List Expr} {t : TA} {tf : TE}
def tCallF (P : Program) (w : World) (K : PySem.W.Frag) (mg : Str → Option Value) (base : Heap) (k : Nat) (E : XK) (tf : TE) (t : TA) : TE := fun σ H Q => tf σ H fun y H1 => ∃ f sp, y = .ref f ∧ HeldX P w K mg base k f sp ∧ t σ H1 fun vs H2 => sp vs H2 Q E
theorem pe_callF (hf : PE X (.Subscript o i p2) tf) (hr : Room k X.A) (hx : Passes (L2.CX X.prog X.w) X E) (ha : PA X (e :: es) t) (he : starEach (e :: es) X.env = (false, eval e X.env) :: starEach es X.env := by rfl) (hpl : (backTo pos (starEach es X.env)).any (·.1) = false := by rfl) :
    PE X (.Call (.Subscript o i p2) (e :: es) [] pos) (tCallF X.prog X.w X.K X.mg X.base k E tf t) := by
  refine ⟨fun pins s σ H Q I h => ?_⟩
  rw [eval_callSub]
  refine wpAny_bind (thn (hf.run pins s σ H _ I h) fun u s1 z => ?_)
  obtain ⟨v, H1, I1, r1, f, sp, rfl, ⟨fd, ps, F, hk, hb⟩, ht⟩ := z
  cases r1
  refine PySem.W.callWith_K (h₀ := X.base) I1.ok.mod.kin hk (thn (ha.run pos pins s1 σ H1 _ I1 ht) fun us s2 z => ?_) he hpl
  obtain ⟨vs, H2, I2, r, q⟩ := z
  refine ⟨I2.kIn, ?_⟩
  refine run_fn (dvs := []) F hr hb .nil hx I2 r ?_
  rw [List.append_nil]
  exact q
end
end TCX
/-! dict(d) of a dict whose keys are tuples; != of two such dicts whose values are the same objects. -/
namespace TCX
open PySem PySem.Spec PyProof.Rows L2 PySem.W
section
variable {prog : Program} {w : World} {K : Type} [DecidableEq K] {knd : HeapKind prog w K} {A : Around} {E : Value → Shared → Prop} {s : Shared}
theorem dict_ofH (st : knd.Stays) {o : Addr} {more : List (K × Addr × Value)} {Q : Value → Shared → Prop} (hu : knd.room A.in1.in1) (hoS : (o == sysModules) = false) (ho : s.heap.DictOfH knd o more) (hap : (more.map fun x => knd.hash x.1).Nodup) (hsz : more.length ≤ sizeLine)
    (h : ∀ h', h'.DictOfH knd s.heap.objs.size more → Heap.SameBut s.heap.objs.size (s.heap.push { cls := .type "dict", data := .dict #[] }) h' → Q (.ref s.heap.objs.size) { s with heap := h' }) :
    wpAny (model prog w) A (call (.type "dict") [.ref o]) Q E s := by
  refine callType_codes (Q₁ := fun obj s₁ => obj = .ref s.heap.objs.size ∧ s₁ = { s with heap := s.heap.push { cls := .type "dict", data := .dict #[] } }) F.kt_called_dict (F.kt_typeCall_dict_1 _) F.entry_dict_init (kt_code_dict_new _ ⟨rfl, rfl⟩) ?_
  rintro obj s₁ ⟨rfl, rfl⟩
  have hnew : (s.heap.push { cls := .type "dict", data := .dict #[] }).DictOfH knd s.heap.objs.size [] := Heap.DictOfH.new s.heap
  have hk : ∀ b u, s.heap.get? b = some u → (s.heap.push { cls := .type "dict", data := .dict #[] }).get? b = some u := fun b u e => Heap.get?_push_of_some _ e
  obtain ⟨_, _, _, hg, _, _, _, his, hn⟩ := id ho
  have ho' : (s.heap.push { cls := .type "dict", data := .dict #[] }).DictOfH knd o more := ho.at' (fun u e => hk o u e) fun y hy => st.stays (fun b u _ _ e _ => hk b u e) (his y hy)
  have hdo : s.heap.objs.size ≠ o := fun e => absurd (Heap.lt_size hg) (by rw [e]; exact Nat.lt_irrefl _)
  refine ⟨hnew.typeIs, F.args_dict_init_2 _ _, ?_⟩
  unfold Builtin.«dict.__init__»
  refine wpAny_bind ?_
  unfold Builtin.Dict.selfAndRest
  refine wpAny_bind (wpAny_notOrdered_dict hnew.typeIs ?_)
  show wpAny _ _ (pure (s.heap.objs.size, [Value.ref o])) _ _ _
  refine wpAny_pure ?_
  refine updateFrom_dictH (A := A.in1) .none hu hdo hoS hnew ho' (.inr ⟨keyed_apart st ho', hap⟩) (by simpa using hsz) fun h' hd' _ hs' => ?_
  rw [storedAllH_nil_of_nodup more hn] at hd'
  exact ⟨rfl, h h' hd' hs'⟩
end
section
variable {X : Cx}
/-- dict(d): a copy, keys that are tuples whose hashes differ -/
theorem call_dictT (hu : X.A.units + 64 < cLine) : CallR X (.type "dict") (fun xs H Q => ∃ (a : Addr) (kvs : List (List Key × V)), xs = [.ref a] ∧ H a = some (.dT kvs) ∧ (kvs.map fun kv => tupleKeyHash (mixKind X.prog X.w) kv.1).Nodup ∧ ∀ p, H p = none → Q (.ref p) (upd H p (.dT kvs))) := by
  intro pins s σ H xs us Q I r q
  obtain ⟨a, kvs, ex, hd, hn, q⟩ := q
  subst ex
  obtain ⟨u, eu, rx⟩ := vals1 r
  subst eu
  cases rx
  obtain ⟨z, lo, vs, rel, dd⟩ := dt_of I.hok hd
  have lv : kvs.length = vs.length := Paired.length rel
  have ek : (vs.map fun x => (tupleKind (mixKind X.prog X.w)).hash x.1) = kvs.map fun kv => tupleKeyHash (mixKind X.prog X.w) kv.1 := by
    refine List.ext_getElem (by rw [List.length_map, List.length_map, lv]) fun i h1 h2 => ?_
    rw [List.getElem_map, List.getElem_map]
    rw [List.length_map] at h1 h2
    obtain ⟨z', hz', e1, _⟩ := paired_get rel (List.getElem?_eq_getElem h2)
    rw [List.getElem?_eq_getElem h1] at hz'
    rw [Option.some.inj hz', e1]
    rfl
  refine dict_ofH tupleKind_stays (show X.A.units + 1 + 1 < cLine by omega) lo dd (by rw [ek]; exact hn) (by rw [← lv]; exact z) fun h' d' hs => ?_
  have hm : (s.heap.objs.size == sysModules) = false := beq_eq_false_iff_ne.mpr (Nat.ne_of_gt I.big)
  have keep : ∀ b u, s.heap.get? b = some u → h'.get? b = some u := fun b u e => (hs.2 b (Nat.ne_of_lt (Heap.lt_size e))).trans (Heap.get?_push_of_some _ e)
  obtain ⟨o', es, ep, g1, g2, g3, g4, _, g6⟩ := d'
  refine ⟨.ref s.heap.objs.size, upd H s.heap.objs.size (.dT kvs), I.laid (t' := s.toks) keep (Nat.le_refl _)
    (show ObjOk X.prog X.w _ _ _ (.dT kvs) from ⟨z, hm, vs, KT.keeps rel fun b ys e => ?_, o', es, ep, g1, g2, g3, g4, g6⟩), rfl, q _ (I.hok.fresh (Nat.le_refl _))⟩
  rw [upd_ne fun e' => by
    rw [e', I.hok.fresh (Nat.le_refl _)] at e
    cases e]
  exact e
/-- != of two dicts of tuple keys that hold the same objects -/
def rNeTR : R2 := fun x y H Q => ∃ a b ks, x = .ref a ∧ y = .ref b ∧ H a = some (.dT ks) ∧ H b = some (.dT ks) ∧ (∀ p ∈ ks, valV ks p.1 = some p.2 ∧ ∃ r, p.2 = .ref r) ∧ Q (.bl false) H
theorem op_neTR (hu : X.A.units + 64 < cLine) : OpR X (compareOp .NotEq) rNeTR := by
  intro pins s σ H x y v u Q I rx ry h
  obtain ⟨a, b, ks, rfl, rfl, ea, eb, hp, q⟩ := h
  obtain rfl : v = Value.ref a := rx
  obtain rfl : u = Value.ref b := ry
  obtain ⟨_, ya, va, ra, da⟩ := dt_of I.hok ea
  obtain ⟨_, yb, vb, rb, db⟩ := dt_of I.hok eb
  have l1 : ks.length = va.length := Paired.length ra
  have l2 : ks.length = vb.length := Paired.length rb
  refine neH (knd := tupleKind (mixKind X.prog X.w)) ?_ (by omega) ya yb da db (by omega) (fun z hz => ?_) (fin_bl I q rfl)
  · exact tupleKind_room_in1 (by omega)
  · obtain ⟨i, hi⟩ := List.getElem?_of_mem hz
    have lt : i < ks.length := by
      have := (List.getElem?_eq_some_iff.mp hi).1
      omega
    obtain ⟨z', hz', e1, e2, e3⟩ := paired_get ra (List.getElem?_eq_getElem lt)
    rw [hi] at hz'
    obtain rfl := Option.some.inj hz'
    obtain ⟨h1, r, h2⟩ := hp _ (List.getElem_mem lt)
    have rr := KT.val rb z.1
    rw [← e1, h1] at rr
    obtain ⟨y, hy, ry⟩ := rr.some_of
    rw [Option.map_eq_some_iff] at hy
    obtain ⟨p, hp1, hp2⟩ := hy
    refine ⟨p, by rw [← e1]; exact hp1, ?_⟩
    rw [hp2]
    rw [h2] at e3 ry
    have e3' : z.2.2 = Value.ref r := e3
    have ry' : y = Value.ref r := ry
    rw [e3', ry']
    exact SeqAt.EqAt.same _
end
/-- the def at f with its promise, whatever it may let out -/
structure HeldC (P : Program) (w : World) (K : PySem.W.Frag) (mg : Str → Option Value) (base : Heap) (CX : CXT) (k : Nat) (f : Addr) (sp : Sp) : Prop where
  ex : ∃ (fd : FuncData) (ps : List Str), FnOk P w K mg base CX k f fd ps sp ∧ PySem.W.keepIn K (.ref f) = true ∧ L2.Binds K fd ps []
section
variable {X : Cx} {k : Nat} {E : XK} {CX : CXT} {o i : Expr} {p2 pos : Pos} {e : Expr} {es : List Expr} {t : TA} {tf : TE}
def tCallC (P : Program) (w : World) (K : PySem.W.Frag) (mg : Str → Option Value) (base : Heap) (CX : CXT) (k : Nat) (E : XK) (tf : TE) (t : TA) : TE := fun σ H Q => tf σ H fun y H1 => ∃ f sp, y = .ref f ∧ HeldC P w K mg base CX k f sp ∧ t σ H1 fun vs H2 => sp vs H2 Q E
theorem pe_callC (hf : PE X (.Subscript o i p2) tf) (hr : Room k X.A) (hx : Passes CX X E) (ha : PA X (e :: es) t) (he : starEach (e :: es) X.env = (false, eval e X.env) :: starEach es X.env := by rfl) (hpl : (backTo pos (starEach es X.env)).any (·.1) = false := by rfl) :
    PE X (.Call (.Subscript o i p2) (e :: es) [] pos) (tCallC X.prog X.w X.K X.mg X.base CX k E tf t) := by
  refine ⟨fun pins s σ H Q I h => ?_⟩
  rw [eval_callSub]
  refine wpAny_bind (thn (hf.run pins s σ H _ I h) fun u s1 z => ?_)
  obtain ⟨v, H1, I1, r1, f, sp, rfl, ⟨fd, ps, F, hk, hb⟩, ht⟩ := z
  cases r1
  refine PySem.W.callWith_K (h₀ := X.base) I1.ok.mod.kin hk (thn (ha.run pos pins s1 σ H1 _ I1 ht) fun us s2 z => ?_) he hpl
  obtain ⟨vs, H2, I2, r, q⟩ := z
  refine ⟨I2.kIn, ?_⟩
  refine run_fn (dvs := []) F hr hb .nil hx I2 r ?_
  rw [List.append_nil]
  exact q
end
end TCX
/-! sorted of a list of data; a list != a list of the same objects; a dict != a dict whose values are told alike by their own ==. -/
namespace TCX
open PySem PySem.Spec PyProof.Rows L2 PySem.W
section
variable {X : Cx}
/-- sorted(xs), xs a list of data of one kind -/
def rSortedLD (K : PySem.W.Frag) : List V → Hp → VK → Prop := fun vs H Q => ∃ (a : Addr) (bs : List VD), vs = [V.ref a] ∧ SqL K H a (bs.map (·.1)) ∧ (∀ b ∈ bs, Dp K H b.1 b.2) ∧ AllAlike (bs.map (·.2)) ∧ Sortable (bs.map (·.2)) ∧ bs.length ≤ 10000 ∧ (∀ b ∈ bs, b.2.depth ≤ 8) ∧
  ∀ p, H p = none → Q (.ref p) (upd H p (.lst ((bs.mergeSort (dataLe false (·.2))).map (·.1))))
theorem cr_sortedLD (hu : X.A.units + 64 < cLine) : CallR X (.builtin "sorted") (rSortedLD X.K) := by
  intro pins s σ H vs us Q I r h
  obtain ⟨a, bs, rfl, hs, hd, al, so, len, dep, q⟩ := h
  obtain ⟨its, rv, hl, hz⟩ := I.list hs
  rw [Vals.ref1 r]
  obtain ⟨e1, e2⟩ := reads_all I rv hd
  refine sorted_data hl.isList e1 e2 al so (Nat.le_trans len (by decide)) (fun b hb => by
    have := dep b hb
    omega) fun out h1 h2 => ?_
  obtain ⟨ep, he'⟩ := PyProof.Rows.sortedAll_at s.heap its out.toArray
  have hlen : ((bs.mergeSort (dataLe false (fun b : VD => b.2))).map (·.1)).length ≤ sizeLine := by
    rw [List.length_map, List.length_mergeSort]
    exact Nat.le_trans len (by decide)
  exact ⟨.ref _, upd H (s.heap.objs.size + 1) (.lst ((bs.mergeSort (dataLe false (fun b : VD => b.2))).map (·.1))), I.laid (t' := s.toks) (fun _ _ => PyProof.Rows.sortedAll_old) (Nat.le_succ _) ⟨hlen, out, ep, vals_each h2, he'⟩, rfl, q _ (I.hok.fresh (Nat.le_succ _))⟩
/-- sorted(d), keys that are flat tuples, in whatever order -/
def rSortedTG : List V → Hp → VK → Prop := fun vs H Q => ∃ (d : Addr) (kvs : List (List Key × V)), vs = [.ref d] ∧ Rd H d (.dT kvs) ∧
  AllAlike (kvs.map fun z => dKeys z.1) ∧ Sortable (kvs.map fun z => dKeys z.1) ∧ kvs.length ≤ 10000 ∧ (∀ z ∈ kvs, (dKeys z.1).depth ≤ 8) ∧
  ∀ (bs : List VD) p, bs.map (·.2) = kvs.map (fun z => dKeys z.1) → (∀ b ∈ bs, ∃ a z, b = (V.ref a, dKeys z) ∧ H a = some (.tup (z.map kV))) → H p = none → Q (.ref p) (upd H p (.lst ((bs.mergeSort (dataLe false (·.2))).map (·.1))))
theorem cr_sortedTG (cm : X.calm = true) (hu : X.A.units + 64 < cLine) : CallR X (.builtin "sorted") rSortedTG := by
  intro pins s σ H vs us Q I r h
  obtain ⟨d, kvs, rfl, e, al, so, len, dep, q⟩ := h
  obtain ⟨u0, rfl, ru⟩ := vals1 r
  cases ru
  obtain ⟨_, lo, xs, kt, dh⟩ := dt_rd I.hok e
  obtain ⟨es, ep, raw, sz, at_⟩ := dh.raw
  have lx := paired_len kt
  obtain ⟨bs, hbs⟩ : ∃ bs : List VD, (kvs.zip xs).map (fun z => ((V.ref z.2.2.1, dKeys z.1.1) : VD)) = bs := ⟨_, rfl⟩
  have lb : bs.length = kvs.length := by
    rw [← hbs, List.length_map, List.length_zip, ← lx, Nat.min_self]
  have at2 : ∀ (i : Nat) (b : VD), bs[i]? = some b → ∃ z x, kvs[i]? = some z ∧ xs[i]? = some x ∧ b = (V.ref x.2.1, dKeys z.1) := fun i b hb => by
    rw [← hbs, List.getElem?_map] at hb
    obtain ⟨z, hz, rfl⟩ := Option.map_eq_some_iff.mp hb
    obtain ⟨h1, h2⟩ := List.getElem?_zip_eq_some.mp hz
    exact ⟨z.1, z.2, h1, h2, rfl⟩
  have e2 : bs.map (·.2) = kvs.map fun z => dKeys z.1 := by
    rw [← hbs, List.map_map]
    have : (kvs.zip xs).map (fun z => dKeys z.1.1) = ((kvs.zip xs).map (·.1)).map fun z => dKeys z.1 := by
      rw [List.map_map]
      rfl
    rw [show (((fun b : VD => b.2) ∘ fun z : (List Key × V) × (List Key × Addr × Value) => ((V.ref z.2.2.1, dKeys z.1.1) : VD))) = fun z => dKeys z.1.1 from rfl, this, List.map_fst_zip (by omega)]
  have tp : ∀ b ∈ bs, ∃ a z, b = (V.ref a, dKeys z) ∧ H a = some (.tup (z.map kV)) := fun b hb => by
    obtain ⟨i, hb⟩ := List.getElem?_of_mem hb
    obtain ⟨z, x, h1, h2, rfl⟩ := at2 i b hb
    obtain ⟨_, h3, _⟩ := paired_ix kt i z x h1 h2
    exact ⟨_, _, rfl, h3⟩
  refine sortedRaw I cm hu lo raw (by rw [sz, ← lx, lb]) (fun i hi b hb => ?_) (fun b hb => ?_) (by rw [e2]; exact al) (by rw [e2]; exact so) (by omega) (fun b hb => ?_) (fun p hp => q bs p e2 tp hp)
  · obtain ⟨z, x, h1, h2, rfl⟩ := at2 i b hb
    obtain ⟨y, h3, h4, _⟩ := at_ i hi
    rw [h2] at h3
    cases h3
    rw [h4]
    rfl
  · obtain ⟨a, z, rfl, h3⟩ := tp b hb
    exact .tup (SqT.of h3) (dp_key _)
  · obtain ⟨i, hb⟩ := List.getElem?_of_mem hb
    obtain ⟨z, x, h1, h2, rfl⟩ := at2 i b hb
    exact dep z (List.mem_of_getElem? h1)
/-- a list != another list of the same objects -/
def rNeLR (K : PySem.W.Frag) : R2 := fun x y H Q => ∃ (a b : Addr) (xs : List Addr), x = .ref a ∧ y = .ref b ∧ SqL K H a (xs.map V.ref) ∧ SqL K H b (xs.map V.ref) ∧ Q (.bl false) H
theorem op_neLR (hu : X.A.units < cLine) : OpR X (compareOp .NotEq) (rNeLR X.K) := by
  intro pins s σ H x y v u Q I rx ry h
  obtain ⟨a, b, xs, rfl, rfl, ea, eb, q⟩ := h
  obtain rfl : v = Value.ref a := rx
  obtain rfl : u = Value.ref b := ry
  obtain ⟨ia, va, ga, _⟩ := I.list ea
  obtain ⟨ib, vb, gb, _⟩ := I.list eb
  have same : ∀ {xs : List Addr} {js : List Value}, Vals (xs.map V.ref) js → js = xs.map Value.ref := fun {xs} => by
    induction xs with
    | nil =>
      intro js h
      cases h
      rfl
    | cons x xs ih =>
      intro js h
      cases h with
      | cons h1 h2 =>
        rw [ih h2]
        cases h1
        rfl
  rw [same va] at ga
  rw [same vb] at gb
  refine SeqAt.RcNeAt.lists (e := fun _ => true) ga.isList gb.isList rfl hu (fun i h1 h2 => SeqAt.EqAt.same _) _ _ _ _ (fin_bl I q ?_)
  simp
end
section
variable {prog : Program} {w : World} {K : Type} [DecidableEq K] {knd : HeapKind prog w K} {A : Around} {E : Value → Shared → Prop} {s : Shared}
theorem samePairsG {nm : String} {a b : Addr} {oa ob : Obj} {Q : Bool → Shared → Prop} (J : Shared → Prop) (hu : knd.room A) (ha : (a == sysModules) = false) (hb : (b == sysModules) = false)
    (hJ : ∀ s, J s → s.heap.get? a = some oa ∧ s.heap.get? b = some ob ∧ ∃ ka kb : List (K × Addr × Value), s.heap.DictOfH knd a ka ∧ s.heap.DictOfH knd b kb ∧ ka.length = kb.length ∧ ∀ x ∈ ka, ∃ p, atKey kb x.1 = some p ∧ wpAny (model prog w) A (eqBool x.2.2 p.2) (fun r s' => r = true ∧ J s') E s)
    (h0 : J s) (h : ∀ s', J s' → Q true s') :
    wpAny (model prog w) A (Builtin.Dict.samePairs nm a b) Q E s := by
  obtain ⟨goa, gob, ka, kb, da, db, hl, _⟩ := hJ s h0
  obtain ⟨oa', es, ep, hoa, _, hda, hea, hia, hna⟩ := da
  obtain ⟨ob', es', ep', hob, _, hdb, heb, hib, hnb⟩ := db
  obtain rfl : oa = oa' := Option.some.inj (goa.symm.trans hoa)
  obtain rfl : ob = ob' := Option.some.inj (gob.symm.trans hob)
  have hla := size_of_entries hea
  have hlb := size_of_entries heb
  have hsz : es.size = es'.size := by omega
  unfold Builtin.Dict.samePairs Builtin.Dict.showsAll
  rw [if_neg (show ¬ (a == sysModules) = true by rw [ha]; exact Bool.false_ne_true), if_neg (show ¬ (b == sysModules) = true by rw [hb]; exact Bool.false_ne_true)]
  refine wpAny_bind (wpAny_pure (wpAny_bind (wpAny_pure ?_)))
  refine wpAny_bind (wpAny_dictEntries hoa hda ?_)
  dsimp only
  refine wpAny_bind (wpAny_dictEntries hob hdb ?_)
  rw [if_neg (by rw [hsz]; simp)]
  refine wpAny_bind (wpAny_dictEpoch hoa hda ?_)
  refine wpAny_bind ?_
  rw [Std.Legacy.Range.forIn_eq_forIn_range']
  simp only [Std.Legacy.Range.size, Nat.sub_zero, Nat.add_sub_cancel, Nat.div_one]
  refine wpAny_forIn_list _
    (fun rest q s' => J s' ∧ q = (none, ()) ∧ ∃ i, rest = List.range' i (es.size - i) ∧ i ≤ es.size)
    _ ?_ ?_ _ _ ⟨h0, rfl, 0, by simp, Nat.zero_le _⟩
  · rintro x rest q s' ⟨hJs, rfl, i, hr, hi⟩
    have hlt : i < es.size := by
      rcases Nat.lt_or_ge i es.size with h | h
      · exact h
      · rw [Nat.sub_eq_zero_of_le h] at hr; simp at hr
    obtain ⟨rfl, hrest⟩ : x = i ∧ rest = List.range' (i + 1) (es.size - (i + 1)) := by
      have e : es.size - i = (es.size - (i + 1)) + 1 := by omega
      rw [e, List.range'_succ] at hr
      injection hr with h1 h2
      exact ⟨h1, h2⟩
    clear hea hia hna heb hib hnb hla hlb hl
    obtain ⟨goa', gob', ka, kb, da, db, hl, hits⟩ := hJ s' hJs
    obtain ⟨oa', es2, ep2, hoa2, _, hda2, hea, hia, hna⟩ := da
    obtain ⟨ob', es2', ep2', hob2, _, hdb2, heb, hib, hnb⟩ := db
    obtain rfl : oa = oa' := Option.some.inj (goa'.symm.trans hoa2)
    obtain rfl : ob = ob' := Option.some.inj (gob'.symm.trans hob2)
    have e1 := hda.symm.trans hda2
    have e2 := hdb.symm.trans hdb2
    injection e1 with e11 e12
    injection e2 with e21 e22
    subst e11 e12 e21 e22
    have hla := size_of_entries hea
    refine wpAny_bind (wpAny_dictEntries hoa2 hda ?_)
    rw [Array.getElem?_eq_getElem hlt]
    have hlt' : x < ka.length := by rw [← hla]; exact hlt
    have ez : es[x] = entryOfKey knd ka[x] := by
      have q := entry_at hea x
      rw [Array.getElem?_eq_getElem hlt, List.getElem?_eq_getElem hlt'] at q
      exact Option.some.inj q
    have hm := List.getElem_mem hlt'
    obtain ⟨p, hp, heq⟩ := hits _ hm
    show wpAny _ _ (holding [es[x].key, es[x].val] _ >>= _) _ _ _
    rw [ez]
    generalize ka[x] = z at hm hp heq
    obtain ⟨k, az, v⟩ := z
    refine wpAny_bind (wpAny_holding (wpAny_bind (wpAny_dictFind_heap (knd := knd) (k := k) (a := az) hu (hia _ hm) hob2 hdb heb hib hnb ?_ ?_)))
    · intro hno
      rw [atKey_none_of_get hno] at hp
      cases hp
    · intro j p' hj
      rw [atKey_of_get hnb hj] at hp
      obtain rfl := Option.some.inj hp
      have ej := entry_at heb j
      rw [hj] at ej
      have hjlt : j < es'.size := (Array.getElem?_eq_some_iff.mp ej).1
      refine wpAny_bind (wpAny_dictEntries hob2 hdb ?_)
      rw [ej]
      refine wpAny_holding (wpAny_mono heq (fun r s2 hq => ?_) fun _ _ x => x)
      obtain ⟨hr', hJ2⟩ := hq
      rw [hr']
      show wpAny _ _ (if (!true) = true then _ else _) _ _ _
      rw [if_neg (by decide)]
      obtain ⟨goa3, _⟩ := hJ s2 hJ2
      refine wpAny_bind (wpAny_dictEpoch goa3 hda ?_)
      rw [if_neg (by simp)]
      exact wpAny_pure ⟨hJ2, rfl, x + 1, hrest, hlt⟩
  · rintro q s' ⟨hJs, rfl, i, hr, hi⟩
    exact wpAny_pure (h _ hJs)
theorem neG {a b : Addr} {oa ob : Obj} {Q : Value → Shared → Prop} (J : Shared → Prop) (hu : knd.room A.in1) (hu0 : A.units < cLine) (ha : (a == sysModules) = false) (hb : (b == sysModules) = false)
    (hJ : ∀ s, J s → s.heap.get? a = some oa ∧ s.heap.get? b = some ob ∧ ∃ ka kb : List (K × Addr × Value), s.heap.DictOfH knd a ka ∧ s.heap.DictOfH knd b kb ∧ ka.length = kb.length ∧ ∀ x ∈ ka, ∃ p, atKey kb x.1 = some p ∧ wpAny (model prog w) A.in1 (eqBool x.2.2 p.2) (fun r s' => r = true ∧ J s') E s)
    (h0 : J s) (h : ∀ s', J s' → Q (.bool false) s') :
    wpAny (model prog w) A (compareOp .NotEq (.ref a) (.ref b)) Q E s := by
  obtain ⟨_, _, ka, kb, da, db, _⟩ := hJ s h0
  refine wpAny_richCompare_same_room (op := .NotEq) da.typeIs db.typeIs PySem.F.slot_dict_ne (wpAny_call_entry PySem.F.slot_dict_ne da.typeIs PySem.F.entry_dict_ne ?_ (PySem.F.args_dict_ne_2 _ _)) hu0
  show wpAny _ _ (Builtin.Dict.dictSlotArgs "__ne__" ⟨[.ref a, .ref b], []⟩ >>= _) _ _ s
  refine wpAny_bind ?_
  unfold Builtin.Dict.dictSlotArgs
  refine wpAny_bind (wpAny_notOrdered_dict da.typeIs ?_)
  show wpAny _ _ (pure (Value.ref a, Value.ref b)) _ _ s
  refine wpAny_pure ?_
  refine wpAny_bind (wpAny_isInstance (T := "dict") db.typeIs PySem.F.sub_dict_dict ?_)
  simp only [Bool.not_true, Bool.false_eq_true, if_false]
  refine wpAny_bind (wpAny_pure (wpAny_bind (wpAny_pure ?_)))
  refine wpAny_bind (samePairsG J hu ha hb hJ h0 fun s' hs => ?_)
  refine wpAny_pure ⟨_, rfl, ?_, ?_⟩
  · exact fun x => nomatch x
  · simpa using h s' hs
end
section
variable {X : Cx} {n : Nat} {D : Eqv}
/-- != of two dicts with tuple keys, other objects, the values told equal by D -/
def rNeDG (D : Eqv) : R2 := fun x y H Q => ∃ a b ks ls, x = .ref a ∧ y = .ref b ∧ a ≠ b ∧ H a = some (.dT ks) ∧ H b = some (.dT ls) ∧ ks.length = ls.length ∧ (∀ z ∈ ks, ∃ t, valV ls z.1 = some t ∧ D z.2 t H) ∧ ∀ H', Ext H H' → Q (.bl false) H'
theorem op_neDG (hD : Mon D) (hF : ∀ x y H a kvs o, H a = some (.dT kvs) → D x y H → D x y (upd H a o)) (h : EqG X n D) (hr : Room (n + 1) X.A) (hu : X.A.units + 64 < cLine) : OpR X (compareOp .NotEq) (rNeDG D) := by
  intro pins s σ H x y v u Q I rx ry hq
  obtain ⟨a, b, ks, ls, rfl, rfl, nab, ea, eb, hlen, hp, q⟩ := hq
  obtain rfl : v = Value.ref a := rx
  obtain rfl : u = Value.ref b := ry
  obtain ⟨_, ya, _⟩ := dt_of I.hok ea
  obtain ⟨_, yb, _⟩ := dt_of I.hok eb
  obtain ⟨oa, I1⟩ := I.lock ea trivial
  have eb1 : upd H a (.frz oa (.dT ks)) b = some (.dT ls) := by rw [upd_ne (Ne.symm nab)]; exact eb
  obtain ⟨ob, I2⟩ := I1.lock eb1 trivial
  obtain ⟨H2, hH2⟩ : ∃ H2, upd (upd H a (.frz oa (.dT ks))) b (.frz ob (.dT ls)) = H2 := ⟨_, rfl⟩
  have ea2 : H2 a = some (.frz oa (.dT ks)) := by rw [← hH2, upd_ne nab]; exact upd_same
  have eb2 : H2 b = some (.frz ob (.dT ls)) := by rw [← hH2]; exact upd_same
  have hp2 : ∀ z ∈ ks, ∃ t, valV ls z.1 = some t ∧ D z.2 t H2 := fun z hz => by
    obtain ⟨t, e, d⟩ := hp z hz
    refine ⟨t, e, ?_⟩
    rw [← hH2]
    exact hF _ _ _ _ _ _ eb1 (hF _ _ _ _ _ _ ea d)
  have na := I.nofrz ea trivial
  have nb := I.nofrz eb trivial
  rw [hH2] at I2
  refine neG (knd := tupleKind (mixKind X.prog X.w)) (oa := oa) (ob := ob) (fun s' => ∃ H', Inv X pins σ H' s' ∧ Ext H2 H') (tupleKind_room_in1 (by omega)) (by omega) ya yb (fun s' hs => ?_) ⟨H2, I2, Ext.rfl'⟩ (fun s' hs => ?_)
  · obtain ⟨H', I', e'⟩ := hs
    have ga := e' _ _ ea2
    have gb := e' _ _ eb2
    obtain ⟨_, _, va, ra, da⟩ := dt_rd I'.hok (.inr ⟨_, ga⟩)
    obtain ⟨_, _, vb, rb, db⟩ := dt_rd I'.hok (.inr ⟨_, gb⟩)
    have l1 : ks.length = va.length := Paired.length ra
    have l2 : ls.length = vb.length := Paired.length rb
    refine ⟨(I'.hok a _ ga).1, (I'.hok b _ gb).1, va, vb, da, db, by omega, fun z hz => ?_⟩
    obtain ⟨i, hi⟩ := List.getElem?_of_mem hz
    have lt : i < ks.length := by
      have := (List.getElem?_eq_some_iff.mp hi).1
      omega
    obtain ⟨z', hz', e1, e2, e3⟩ := paired_get ra (List.getElem?_eq_getElem lt)
    rw [hi] at hz'
    obtain rfl := Option.some.inj hz'
    obtain ⟨t, h1, d⟩ := hp2 _ (List.getElem_mem lt)
    have rr := KT.val rb z.1
    rw [← e1, h1] at rr
    obtain ⟨y, hy, ry⟩ := rr.some_of
    rw [Option.map_eq_some_iff] at hy
    obtain ⟨p, hp1, hp2⟩ := hy
    refine ⟨p, by rw [← e1]; exact hp1, ?_⟩
    rw [hp2]
    refine wpAny_mono (h X.A.in1 pins s' σ H' _ _ _ _ ⟨hr.in1, rfl⟩ I' e3 ry (hD _ _ _ _ e' d)) (fun r s2 q2 => ?_) fun _ _ x => x
    obtain ⟨hr', H3, I3, e3'⟩ := q2
    exact ⟨hr', H3, I3, e'.trans e3'⟩
  · obtain ⟨H', I', e'⟩ := hs
    have I3 := I'.unlock (e' _ _ eb2) nb
    have I4 := I3.unlock (d := a) (by rw [upd_ne nab]; exact e' _ _ ea2) na
    refine ⟨.bl false, _, I4, rfl, q _ fun c o ec => ?_⟩
    by_cases ca : c = a
    · rw [ca, upd_same]
      rw [ca, ea] at ec
      exact ec
    · rw [upd_ne ca]
      by_cases cb : c = b
      · rw [cb, upd_same]
        rw [cb, eb] at ec
        exact ec
      · rw [upd_ne cb]
        refine e' _ _ ?_
        rw [← hH2, upd_ne cb, upd_ne ca]
        exact ec
end
end TCX
/-! min of a list of data; sorted(xs, key=len), xs a list of lists. -/
namespace TCX
open PySem PySem.Spec PyProof.Rows L2 PySem.W
def rMinLD (K : PySem.W.Frag) : List V → Hp → VK → Prop := fun vs H Q => ∃ (a : Addr) (b0 : VD) (bs : List VD), vs = [V.ref a] ∧ SqL K H a ((b0 :: bs).map (·.1)) ∧ DpAll K H ((b0 :: bs).map (·.1)) ((b0 :: bs).map (·.2)) ∧ AlikeAll ((b0 :: bs).map (·.2)) ∧ PyData.depthAll ((b0 :: bs).map (·.2)) ≤ 20 ∧
  ∀ (i : Nat) b, (b0 :: bs)[i]? = some b → b.2 = minD b0.2 (bs.map (·.2)) → Q b.1 H
theorem cr_minLD {X : Cx} (hc : X.calm = true) (hu : X.A.units + 64 < cLine) : CallR X (.builtin "min") (rMinLD X.K) := by
  intro pins s σ H vs us Q I r h
  obtain ⟨a, b0, bs, rfl, hs, hd, al, dep, q⟩ := h
  obtain ⟨its, rv, hl, hz⟩ := I.list hs
  rw [Vals.ref1 r]
  obtain ⟨as, ra⟩ := Dp.readsAll I _ _ _ hd rv
  refine min_list_data (I.ok.hd hc) hl.isList (x := b0.2) (xs := bs.map (·.2)) (as := as) (by rw [List.toList_toArray]; exact ra) (by exact al) (by
    show X.A.units + 1 + PyData.depthAll (b0.2 :: bs.map (·.2)) < cLine
    have e : (b0 :: bs).map (·.2) = b0.2 :: bs.map (·.2) := rfl
    rw [e] at dep
    omega) fun i v h' tk bs' hv hr hk => ?_
  have hv' : its[i]? = some v := by
    rw [List.getElem?_toArray] at hv
    exact hv
  have il : i < (b0 :: bs).length := by
    have := (List.getElem?_eq_some_iff.mp hv').1
    have l2 := rv.length
    rw [List.length_map] at l2
    omega
  obtain ⟨b, hb⟩ : ∃ b, (b0 :: bs)[i]? = some b := ⟨_, List.getElem?_eq_getElem il⟩
  have bm := List.mem_of_getElem? hb
  have rvi : RelV b.1 v := by
    obtain ⟨y, hy, e⟩ := paired_get rv (show ((b0 :: bs).map (·.1))[i]? = some b.1 by rw [List.getElem?_map, hb]; rfl)
    rw [hv'] at hy
    cases hy
    exact e
  have db : Dp X.K H b.1 b.2 := by
    have key : ∀ {l : List VD} {i : Nat} {b : VD}, DpAll X.K H (l.map (·.1)) (l.map (·.2)) → l[i]? = some b → Dp X.K H b.1 b.2 := fun {l} => by
      induction l with
      | nil => exact fun {i b} _ h => by simp at h
      | cons c l ih =>
        intro i b h1 h2
        cases h1 with
        | cons g1 g2 =>
          match i, h2 with
          | 0, h2 =>
            cases h2
            exact g1
          | i + 1, h2 => exact ih g2 h2
    exact key hd hb
  obtain ⟨as2, r2⟩ := Dp.reads I _ _ _ db rvi
  have e : b.2 = minD b0.2 (bs.map (·.2)) := ((reads_keeps hk r2).unique _ _ hr).1
  exact ⟨b.1, H, I.kept (t' := tk) hk, rvi, q i b hb e⟩
def tSortLen (te : TE) : TE := fun σ H Q => te σ H fun x H1 => ∃ (a : Addr) (us : List Addr), x = V.ref a ∧ H1 a = some (.lst (us.map V.ref)) ∧ (∀ u ∈ us, ∃ ys, H1 u = some (.lst ys)) ∧
  ∀ (us' : List Addr) p, us'.Perm us → H1 p = none → Q (.ref p) (upd H1 p (.lst (us'.map V.ref)))
theorem lens_of {X : Cx} {pins : List (Addr × Obj)} {σ : L2.St} {H : Hp} {s : Shared} (I : Inv X pins σ H s) : ∀ {us : List Addr} {its : List Value}, Vals (us.map V.ref) its → (∀ u ∈ us, ∃ ys, H u = some (.lst ys)) → ∃ bs : List (Addr × Nat), bs.map Prod.fst = us ∧ EachIs (fun (v : Value) (b : Addr × Nat) => v = .ref b.1 ∧ ∃ is : List Value, s.heap.IsList b.1 is.toArray ∧ is.length = b.2 ∧ is.length ≤ sizeLine) its bs
  | [], _, .nil, _ => ⟨[], rfl, .nil⟩
  | u :: us, _, .cons r rs, h => by
    obtain ⟨bs, e1, e2⟩ := lens_of I rs fun u' hu => h u' (List.mem_cons_of_mem _ hu)
    obtain ⟨ys, hy⟩ := h u List.mem_cons_self
    obtain ⟨is, rv, hl, hz⟩ := I.list (SqL.of (K := X.K) hy)
    refine ⟨(u, is.length) :: bs, by rw [List.map_cons, e1], .cons ⟨r, is, hl.isList, rfl, ?_⟩ e2⟩
    have := rv.length
    omega
theorem refs_of {R : Value → Addr × Nat → Prop} (hR : ∀ v b, R v b → v = .ref b.1) : ∀ {out : List Value} {bs : List (Addr × Nat)}, EachIs R out bs → Vals ((bs.map Prod.fst).map V.ref) out
  | _, _, .nil => .nil
  | _, _, .cons h t => .cons (hR _ _ h) (refs_of hR t)
section
variable {X : Cx} {e : Expr} {te : TE} {p p2 pos kpos : Pos} {nm : Option Str}
theorem pe_sortedLen (hg : Gl X "sorted") (hm : X.mg "sorted" = none) (hgl : Gl X "len") (hml : X.mg "len" = none) (hu : X.A.units + 64 < cLine) (he : PA X [e] (tCons te tNil))
    (he' : backTo pos (starEach [e] X.env) = (false, eval e X.env) :: backTo pos (starEach [] X.env) := by rfl) (hpl : (backTo pos (starEach [e] X.env)).any (·.1) = false := by rfl)
    (hall : (backToKw pos (keywordEach [⟨some (Str.ofString "key"), .Name "len" p2, kpos⟩] X.env)).all (·.1.isSome) = true := by rfl) (hnone : (backToKw pos (keywordEach [⟨some (Str.ofString "key"), .Name "len" p2, kpos⟩] X.env)).any (·.1.isNone) = false := by rfl) (hks : (backToKw pos (keywordEach [⟨some (Str.ofString "key"), .Name "len" p2, kpos⟩] X.env)).filterMap (·.1) = [Str.ofString "key"] := by rfl) :
    PE X (.Call (.Name "sorted" p) [e] [⟨some (Str.ofString "key"), .Name "len" p2, kpos⟩] pos) (tSortLen te) := by
  refine ⟨fun pins s σ H Q I h => ?_⟩
  refine wpAny_Call_Name_kw (ld_blt I hg hm (u := .builtin "sorted") (by decide +kernel) ?_ (by decide) (by decide))
  have h' : tCons te tNil σ H (fun vs H1 => match vs with
      | [x] => ∃ (a : Addr) (us : List Addr), x = V.ref a ∧ H1 a = some (.lst (us.map V.ref)) ∧ (∀ u ∈ us, ∃ ys, H1 u = some (.lst ys)) ∧ ∀ (us' : List Addr) p, us'.Perm us → H1 p = none → Q (.ref p) (upd H1 p (.lst (us'.map V.ref)))
      | _ => False) := h
  refine PyProof.Rows.callWith_kw (thn (he.run pos pins s σ H _ I h') fun us s1 ⟨vs, H1, I1, r1, q1⟩ => ?_) he' hpl hall hnone
  rw [hks]
  show wpAny _ _ (evalAll [do let v ← eval (.Name "len" p2) X.env; standAt pos; pure v]) _ _ s1
  refine wpAny_evalAll_cons (wpAny_bind (ld_blt I1 hgl hml (u := .builtin "len") (by decide +kernel) (wpAny_bind (wpAny_standAt (wpAny_pure (wpAny_evalAll_nil ?_)))) (by decide) (by decide)))
  match vs, r1, q1 with
  | [x], r1, q1 =>
    obtain ⟨a, as, rfl, ha, hl, q⟩ := q1
    rw [Vals.ref1 r1]
    obtain ⟨its, rv, il, hz⟩ := I1.list (SqL.of (K := X.K) ha)
    obtain ⟨bs, eb, ei⟩ := lens_of I1 rv hl
    have len : bs.length ≤ sizeLine := by
      have l1 := congrArg List.length eb
      rw [List.length_map] at l1
      rw [List.length_map] at hz
      omega
    refine sorted_key_data (k := fun b : Addr × Nat => .int (b.2 : Int)) il.isList ei (fun d hd d' hd' => ?_) (.inr fun d hd => ?_) len (fun x _ => ?_) (ksk_s1 _ _) (fun _ => ksk_l1 _ _) (fun _ => ksk_t4 _ _) (fun v x hR hx h tk kp => ?_) (fun out c h' tk kp hfresh ho hlen hD => ?_)
    · obtain ⟨b, _, rfl⟩ := List.mem_map.mp hd
      obtain ⟨b', _, rfl⟩ := List.mem_map.mp hd'
      rfl
    · obtain ⟨b, _, rfl⟩ := List.mem_map.mp hd
      exact ⟨(fun e => by cases e), (fun xs e => by cases e)⟩
    · show X.A.units + 2 + 0 < cLine
      omega
    · obtain ⟨rfl, is, hi, e1, e2⟩ := hR
      have s62 := line63
      refine Calls.call_len_list (Heap.IsList.at hi (kp _)) (by rw [List.size_toArray]; omega) ?_
      exact ⟨h, _, rfl, fun _ _ e => e, by rw [List.size_toArray, e1]; exact .int _ _⟩
    · have hO : Vals (((bs.mergeSort (dataLe false fun b : Addr × Nat => .int (b.2 : Int))).map Prod.fst).map V.ref) out := refs_of (fun v b h => h.1) hD
      have pm : ((bs.mergeSort (dataLe false fun b : Addr × Nat => .int (b.2 : Int))).map Prod.fst).Perm as := by
        rw [← eb]
        exact (List.mergeSort_perm bs _).map _
      refine ⟨.ref _, upd H1 (s1.heap.objs.size + 1) (.lst (((bs.mergeSort (dataLe false fun b : Addr × Nat => .int (b.2 : Int))).map Prod.fst).map V.ref)), I1.laid (t' := tk) kp (Nat.le_succ _) ⟨?_, out, c, hO, ho⟩, rfl, q _ _ pm (I1.hok.fresh (Nat.le_succ _))⟩
      rw [List.length_map, pm.length_eq]
      rw [List.length_map] at hz
      exact hz
end
end TCX
/-! zip(*t) of three tuples, taken whole: list(zip(*t)), tuple(zip(*t)) -/
namespace TCX
open PySem PySem.Spec PyProof.Rows L2 RZ
open PySem.Sem (wp)
/-- the object at z: a zip of the iterators in TI, whose own tuple is TO -/
def ZipO (h : Heap) (z TI TO : Addr) : Prop := ∃ (f0 : Value) (f1 : Bool), (f0 = .none ∨ ∃ n, f0 = rawInt n) ∧ h.get? z = some { cls := .type "zip", dict := none, data := .fields #[f0, .bool f1, .bool false, .ref TI, .ref TO], slots := #[] }
abbrev IsThree (h : Heap) (T : Addr) (a b c : Value) : Prop := h.get? T = some { cls := .type "tuple", data := .seq #[a, b, c] }
/-- three tuples walked together, all three at place k; n: where the things stand -/
structure Z3 (n l1 l2 l3 : Nat) (as bs cs : Array Value) (k : Nat) (h : Heap) : Prop where
  z : ZipO h (n + 5) (n + 3) (n + 4)
  ti : IsThree h (n + 3) (.ref n) (.ref (n + 1)) (.ref (n + 2))
  to : ∃ x y w, IsThree h (n + 4) x y w
  i1 : h.IsTupleIter n l1 k
  i2 : h.IsTupleIter (n + 1) l2 k
  i3 : h.IsTupleIter (n + 2) l3 k
  t1 : h.IsTuple l1 as
  t2 : h.IsTuple l2 bs
  t3 : h.IsTuple l3 cs
def fp3 (n l1 l2 l3 : Nat) : List Addr := [n + 5, n + 3, n + 4, n, n + 1, n + 2, l1, l2, l3]
def wr3 (n : Nat) : List Addr := [n + 5, n + 4, n, n + 1, n + 2]
theorem Z3.keeps {n l1 l2 l3 : Nat} {as bs cs : Array Value} {k : Nat} {h h' : Heap} (Z : Z3 n l1 l2 l3 as bs cs k h) (hk : ∀ b ∈ fp3 n l1 l2 l3, ∀ o, h.get? b = some o → h'.get? b = some o) : Z3 n l1 l2 l3 as bs cs k h' := by
  have m : ∀ b, b ∈ fp3 n l1 l2 l3 → ∀ o, h.get? b = some o → h'.get? b = some o := hk
  obtain ⟨⟨f0, f1, hf, hz⟩, hti, ⟨x, y, w, hto⟩, h1, h2, h3, t1, t2, t3⟩ := Z
  exact ⟨⟨f0, f1, hf, m _ (by simp [fp3]) _ hz⟩, m _ (by simp [fp3]) _ hti, ⟨x, y, w, m _ (by simp [fp3]) _ hto⟩, h1.at fun o e => m _ (by simp [fp3]) o e, h2.at fun o e => m _ (by simp [fp3]) o e, h3.at fun o e => m _ (by simp [fp3]) o e,
    t1.at fun o e => m _ (by simp [fp3]) o e, t2.at fun o e => m _ (by simp [fp3]) o e, t3.at fun o e => m _ (by simp [fp3]) o e⟩
theorem wpAny_alive {M : Model} {A : Around} {E : Value → Shared → Prop} {s : Shared} {a : Addr} {Q : Option Obj → Shared → Prop} (h : Q (s.heap.get? a) s) : wpAny M A (loadIfAlive a) Q E s := fun Γ p hΓ => by
  show wp M Γ (.loadIfAlive a .pure) _ _ p s
  rw [Sem.wp_loadIfAlive]
  exact h
section
variable {prog : Program} {w : World} {A : Around} {E : Value → Shared → Prop} {s : Shared}
theorem free3 {z TI TO : Addr} {Q : Bool → Shared → Prop} (hz : ZipO s.heap z TI TO) (h : ∀ b h', ZipO h' z TI TO → Heap.SameBut z s.heap h' → Q b { s with heap := h' }) : wpAny (model prog w) A (Builtin.SmallTypes.ownedTupleIsFree (.ref z)) Q E s := by
  obtain ⟨f0, f1, hf, ho⟩ := hz
  unfold Builtin.SmallTypes.ownedTupleIsFree
  refine wpAny_bind (wpAny_field ho rfl (x := f0) rfl ?_)
  rcases hf with rfl | ⟨n, rfl⟩
  · exact wpAny_pure (h true s.heap ⟨_, _, .inl rfl, ho⟩ ⟨rfl, fun _ _ => rfl⟩)
  · show wpAny _ _ (loadIfAlive n.toNat >>= _) _ _ s
    refine wpAny_bind (wpAny_alive ?_)
    cases hl : s.heap.get? n.toNat with
    | none => exact wpAny_pure (h true s.heap ⟨_, _, .inr ⟨n, rfl⟩, ho⟩ ⟨rfl, fun _ _ => rfl⟩)
    | some o =>
      show wpAny _ _ (field (.ref z) 1 >>= _) _ _ s
      refine wpAny_bind (wpAny_field ho rfl (x := .bool f1) rfl ?_)
      cases f1 with
      | true => exact wpAny_pure (h false s.heap ⟨_, _, .inr ⟨n, rfl⟩, ho⟩ ⟨rfl, fun _ _ => rfl⟩)
      | false =>
        show wpAny _ _ (setField (.ref z) 1 (.bool true) >>= _) _ _ s
        refine wpAny_bind (wpAny_setField_rec ho (by simp) fun h' hz' hs => wpAny_pure (h false h' ⟨_, true, .inr ⟨n, rfl⟩, hz'⟩ hs))
/-- what stands beside the zip object -/
structure It3 (n l1 l2 l3 : Nat) (as bs cs : Array Value) (k1 k2 k3 : Nat) (x y w : Value) (h : Heap) : Prop where
  ti : IsThree h (n + 3) (.ref n) (.ref (n + 1)) (.ref (n + 2))
  to : IsThree h (n + 4) x y w
  i1 : h.IsTupleIter n l1 k1
  i2 : h.IsTupleIter (n + 1) l2 k2
  i3 : h.IsTupleIter (n + 2) l3 k3
  t1 : h.IsTuple l1 as
  t2 : h.IsTuple l2 bs
  t3 : h.IsTuple l3 cs
theorem xb {d : Nat} {h h' : Heap} (s : Heap.SameBut d h h') : ∀ (b : Nat) o, b ≠ d → h.get? b = some o → h'.get? b = some o := fun b o hb e => s.extBut b o hb e
theorem It3.but {n l1 l2 l3 : Nat} {as bs cs : Array Value} {k1 k2 k3 : Nat} {x y w : Value} {h h' : Heap} (ll1 : l1 < n) (ll2 : l2 < n) (ll3 : l3 < n) (Z : It3 n l1 l2 l3 as bs cs k1 k2 k3 x y w h) (s : ∀ b o, b ≠ n + 5 → h.get? b = some o → h'.get? b = some o) : It3 n l1 l2 l3 as bs cs k1 k2 k3 x y w h' :=
  ⟨s (n + 3) _ (by omega) Z.ti, s (n + 4) _ (by omega) Z.to, Z.i1.at fun o e => s n o (by omega) e, Z.i2.at fun o e => s (n + 1) o (by omega) e, Z.i3.at fun o e => s (n + 2) o (by omega) e, Z.t1.at fun o e => s l1 o (by omega) e, Z.t2.at fun o e => s l2 o (by omega) e, Z.t3.at fun o e => s l3 o (by omega) e⟩
theorem It3.s1 {n l1 l2 l3 : Nat} {as bs cs : Array Value} {k1 k2 k3 j : Nat} {x y w : Value} {h h' : Heap} (ll1 : l1 < n) (ll2 : l2 < n) (ll3 : l3 < n) (Z : It3 n l1 l2 l3 as bs cs k1 k2 k3 x y w h) (s : Heap.SameBut n h h') (e : h'.IsTupleIter n l1 j) : It3 n l1 l2 l3 as bs cs j k2 k3 x y w h' :=
  ⟨xb s (n + 3) _ (by omega) Z.ti, xb s (n + 4) _ (by omega) Z.to, e, Z.i2.at fun o e => xb s (n + 1) o (by omega) e, Z.i3.at fun o e => xb s (n + 2) o (by omega) e, Z.t1.at fun o e => xb s l1 o (by omega) e, Z.t2.at fun o e => xb s l2 o (by omega) e, Z.t3.at fun o e => xb s l3 o (by omega) e⟩
theorem It3.s2 {n l1 l2 l3 : Nat} {as bs cs : Array Value} {k1 k2 k3 j : Nat} {x y w : Value} {h h' : Heap} (ll1 : l1 < n) (ll2 : l2 < n) (ll3 : l3 < n) (Z : It3 n l1 l2 l3 as bs cs k1 k2 k3 x y w h) (s : Heap.SameBut (n + 1) h h') (e : h'.IsTupleIter (n + 1) l2 j) : It3 n l1 l2 l3 as bs cs k1 j k3 x y w h' :=
  ⟨xb s (n + 3) _ (by omega) Z.ti, xb s (n + 4) _ (by omega) Z.to, Z.i1.at fun o e => xb s n o (by omega) e, e, Z.i3.at fun o e => xb s (n + 2) o (by omega) e, Z.t1.at fun o e => xb s l1 o (by omega) e, Z.t2.at fun o e => xb s l2 o (by omega) e, Z.t3.at fun o e => xb s l3 o (by omega) e⟩
theorem It3.s3 {n l1 l2 l3 : Nat} {as bs cs : Array Value} {k1 k2 k3 j : Nat} {x y w : Value} {h h' : Heap} (ll1 : l1 < n) (ll2 : l2 < n) (ll3 : l3 < n) (Z : It3 n l1 l2 l3 as bs cs k1 k2 k3 x y w h) (s : Heap.SameBut (n + 2) h h') (e : h'.IsTupleIter (n + 2) l3 j) : It3 n l1 l2 l3 as bs cs k1 k2 j x y w h' :=
  ⟨xb s (n + 3) _ (by omega) Z.ti, xb s (n + 4) _ (by omega) Z.to, Z.i1.at fun o e => xb s n o (by omega) e, Z.i2.at fun o e => xb s (n + 1) o (by omega) e, e, Z.t1.at fun o e => xb s l1 o (by omega) e, Z.t2.at fun o e => xb s l2 o (by omega) e, Z.t3.at fun o e => xb s l3 o (by omega) e⟩
theorem It3.s4 {n l1 l2 l3 : Nat} {as bs cs : Array Value} {k1 k2 k3 : Nat} {x y w x' y' w' : Value} {h h' : Heap} (ll1 : l1 < n) (ll2 : l2 < n) (ll3 : l3 < n) (Z : It3 n l1 l2 l3 as bs cs k1 k2 k3 x y w h) (s : Heap.SameBut (n + 4) h h') (e : IsThree h' (n + 4) x' y' w') : It3 n l1 l2 l3 as bs cs k1 k2 k3 x' y' w' h' :=
  ⟨xb s (n + 3) _ (by omega) Z.ti, e, Z.i1.at fun o e => xb s n o (by omega) e, Z.i2.at fun o e => xb s (n + 1) o (by omega) e, Z.i3.at fun o e => xb s (n + 2) o (by omega) e, Z.t1.at fun o e => xb s l1 o (by omega) e, Z.t2.at fun o e => xb s l2 o (by omega) e, Z.t3.at fun o e => xb s l3 o (by omega) e⟩
theorem upd3 {T : Addr} {a b c x : Value} {k : Nat} {Q : Unit → Shared → Prop} (hT : IsThree s.heap T a b c)
    (h : ∀ h', h'.get? T = some { cls := .type "tuple", data := .seq ((#[a, b, c] : Array Value).setIfInBounds k x) } → Heap.SameBut T s.heap h' → Q () { s with heap := h' }) :
    wpAny (model prog w) A (updateSeq T (·.setIfInBounds k x)) Q E s := by
  refine wpAny_updateSeq hT rfl (h _ ?_ (Heap.SameBut.update ..))
  rw [Heap.get?_update_self _ hT rfl]
  simp [Obj.mapSeq]
/-- the next item is drawn from a tuple's iterator -/
theorem next3 {n l1 l2 l3 : Nat} {as bs cs : Array Value} {k : Nat} {x y u : Value} {Q : Value → Shared → Prop} (ll1 : l1 < n) (ll2 : l2 < n) (ll3 : l3 < n) (Z : Z3 n l1 l2 l3 as bs cs k s.heap) (hx : as[k]? = some x) (hy : bs[k]? = some y) (hu : cs[k]? = some u)
    (hQ : ∀ (t : Nat) h', Z3 n l1 l2 l3 as bs cs (k + 1) h' → IsThree h' t x y u → s.heap.objs.size ≤ t → (∀ c o, c ∉ wr3 n → s.heap.get? c = some o → h'.get? c = some o) → Q (.ref t) { s with heap := h' }) :
    wpAny (model prog w) A (Builtin.«zip.__next__» ⟨[.ref (n + 5)], []⟩) (fun fin s' => ∃ v, fin = .done (.ret v) ∧ Q v s') E s := by
  obtain ⟨hz, hti, ⟨a, b, c, hto⟩, h1, h2, h3, t1, t2, t3⟩ := Z
  obtain ⟨f0, f1, hf, ho⟩ := id hz
  show wpAny _ _ (field (.ref (n + 5)) 2 >>= _) _ _ _
  refine wpAny_bind (wpAny_field ho rfl (x := .bool false) rfl ?_)
  show wpAny _ _ (field (.ref (n + 5)) 3 >>= _) _ _ _
  refine wpAny_bind (wpAny_field ho rfl (x := .ref (n + 3)) rfl ?_)
  refine wpAny_bind (wpAny_seqItems hti rfl ?_)
  show wpAny _ _ (Builtin.SmallTypes.ownedTupleIsFree (.ref (n + 5)) >>= _) _ _ _
  refine wpAny_bind (free3 hz fun fr g0 hz0 sb0 => ?_)
  have J0 : It3 n l1 l2 l3 as bs cs k k k a b c g0 := It3.but ll1 ll2 ll3 ⟨hti, hto, h1, h2, h3, t1, t2, t3⟩ fun b o hb e => xb sb0 b o hb e
  have sz0 : g0.objs.size = s.heap.objs.size := sb0.1
  have nlt : n + 5 < s.heap.objs.size := Heap.lt_size ho
  clear hz ho hf f0 f1 hti hto h1 h2 h3 t1 t2 t3
  obtain ⟨f0, f1, hf, ho⟩ := hz0
  have kw : ∀ {c}, c ∉ wr3 n → c ≠ n + 5 ∧ c ≠ n + 4 ∧ c ≠ n ∧ c ≠ n + 1 ∧ c ≠ n + 2 := fun h => by simpa [wr3] using h
  cases fr with
  | true =>
    simp only [if_true]
    refine wpAny_bind (wpAny_rule ?_)
    refine wpAny_bind (wpAny_field ho rfl (x := .ref (n + 4)) rfl ?_)
    refine wpAny_bind (wpAny_setField_rec ho (by simp) fun g1 hz1 sb1 => ?_)
    replace hz1 : g1.get? (n + 5) = some { cls := .type "zip", dict := none, data := .fields #[.ellipsis, .bool f1, .bool false, .ref (n + 3), .ref (n + 4)], slots := #[] } := hz1
    have J1 := It3.but ll1 ll2 ll3 J0 fun b o hb e => xb sb1 b o hb e
    refine wpAny_bind ?_
    simp only [List.zipIdx_cons, List.zipIdx_nil, List.forIn_cons, List.forIn_nil]
    refine wpAny_bind (wpAny_bind (wpAny_onRaise ?_))
    show wpAny _ _ (Builtin.SmallTypes.nextOf (.ref n) >>= _) _ _ _
    refine wpAny_bind (nextOf_tuple_item J1.i1 J1.t1 hx fun g2 hi2 sb2 => wpAny_pure ?_)
    have J2 := J1.s1 ll1 ll2 ll3 sb2 hi2
    refine wpAny_bind (wpAny_seqItems J2.to rfl ?_)
    refine wpAny_bind (upd3 J2.to fun g3 ht3 sb3 => ?_)
    have J3 := J2.s4 ll1 ll2 ll3 sb3 (x' := x) (y' := b) (w' := c) ht3
    refine wpAny_bind (wpAny_letGo (wpAny_pure ?_))
    refine wpAny_bind (wpAny_bind (wpAny_onRaise ?_))
    show wpAny _ _ (Builtin.SmallTypes.nextOf (.ref (n + 1)) >>= _) _ _ _
    refine wpAny_bind (nextOf_tuple_item J3.i2 J3.t2 hy fun g4 hi4 sb4 => wpAny_pure ?_)
    have J4 := J3.s2 ll1 ll2 ll3 sb4 hi4
    refine wpAny_bind (wpAny_seqItems J4.to rfl ?_)
    refine wpAny_bind (upd3 J4.to fun g5 ht5 sb5 => ?_)
    have J5 := J4.s4 ll1 ll2 ll3 sb5 (x' := x) (y' := y) (w' := c) ht5
    refine wpAny_bind (wpAny_letGo (wpAny_pure ?_))
    refine wpAny_bind (wpAny_bind (wpAny_onRaise ?_))
    show wpAny _ _ (Builtin.SmallTypes.nextOf (.ref (n + 2)) >>= _) _ _ _
    refine wpAny_bind (nextOf_tuple_item J5.i3 J5.t3 hu fun g6 hi6 sb6 => wpAny_pure ?_)
    have J6 := J5.s3 ll1 ll2 ll3 sb6 hi6
    refine wpAny_bind (wpAny_seqItems J6.to rfl ?_)
    refine wpAny_bind (upd3 J6.to fun g7 ht7 sb7 => ?_)
    have J7 := J6.s4 ll1 ll2 ll3 sb7 (x' := x) (y' := y) (w' := u) ht7
    refine wpAny_bind (wpAny_letGo (wpAny_pure (wpAny_pure ?_)))
    refine wpAny_bind (wpAny_seqItems J7.to rfl ?_)
    refine wpAny_bind (wpAny_newTuple ?_)
    have sz7 : g7.objs.size = s.heap.objs.size := by rw [sb7.1, sb6.1, sb5.1, sb4.1, sb3.1, sb2.1, sb1.1, sz0]
    have hz7 := xb sb7 (n + 5) _ (by omega) (xb sb6 (n + 5) _ (by omega) (xb sb5 (n + 5) _ (by omega) (xb sb4 (n + 5) _ (by omega) (xb sb3 (n + 5) _ (by omega) (xb sb2 (n + 5) _ (by omega) hz1)))))
    have k7 : ∀ c o, c ∉ wr3 n → s.heap.get? c = some o → g7.get? c = some o := fun c o hc e => by
      obtain ⟨c1, c2, c3, c4, c5⟩ := kw hc
      exact xb sb7 _ _ c2 (xb sb6 _ _ c5 (xb sb5 _ _ c2 (xb sb4 _ _ c4 (xb sb3 _ _ c2 (xb sb2 _ _ c3 (xb sb1 _ _ c1 (xb sb0 _ _ c1 e)))))))
    show wpAny _ _ (Builtin.SmallTypes.ownedTupleHandOut (.ref (n + 5)) (.ref g7.objs.size) >>= _) _ _ _
    refine wpAny_bind ?_
    unfold Builtin.SmallTypes.ownedTupleHandOut
    have hz8 : (g7.push { cls := .type "tuple", data := .seq #[x, y, u] }).get? (n + 5) = some _ := Heap.get?_push_of_some _ hz7
    refine wpAny_bind (wpAny_setField_rec hz8 (by simp) fun g9 hz9 sb9 => ?_)
    refine wpAny_setField_rec hz9 (by simp) fun g10 hz10 sb10 => ?_
    have up : ∀ c o, c ≠ n + 5 → g7.get? c = some o → g10.get? c = some o := fun c o c1 e => xb sb10 _ _ c1 (xb sb9 _ _ c1 (Heap.get?_push_of_some _ e))
    have hT : IsThree g10 g7.objs.size x y u := xb sb10 g7.objs.size _ (by omega) (xb sb9 g7.objs.size _ (by omega) (Heap.get?_push_size _ rfl))
    have J10 := It3.but ll1 ll2 ll3 J7 up
    refine wpAny_pure ⟨_, rfl, hQ _ g10 ⟨⟨_, _, .inr ⟨_, rfl⟩, hz10⟩, J10.ti, ⟨_, _, _, J10.to⟩, J10.i1, J10.i2, J10.i3, J10.t1, J10.t2, J10.t3⟩ hT (Nat.le_of_eq sz7.symm) fun c o hc e => up _ _ (kw hc).1 (k7 _ _ hc e)⟩
  | false =>
    simp only [Bool.false_eq_true, if_false]
    refine wpAny_bind ?_
    first
    | rw [List.forIn_toArray]
    | (rw [← Array.forIn_toList]; simp only [List.toList_toArray])
    simp only [List.forIn_cons, List.forIn_nil]
    refine wpAny_bind (wpAny_bind (wpAny_holding ?_))
    show wpAny _ _ (Builtin.SmallTypes.nextOf (.ref n) >>= fun v => pure (some v)) _ _ _
    refine wpAny_bind (nextOf_tuple_item J0.i1 J0.t1 hx fun g1 hi1 sb1 => wpAny_pure ?_)
    have J1 := J0.s1 ll1 ll2 ll3 sb1 hi1
    refine wpAny_pure ?_
    refine wpAny_bind (wpAny_bind (wpAny_holding ?_))
    show wpAny _ _ (Builtin.SmallTypes.nextOf (.ref (n + 1)) >>= fun v => pure (some v)) _ _ _
    refine wpAny_bind (nextOf_tuple_item J1.i2 J1.t2 hy fun g2 hi2 sb2 => wpAny_pure ?_)
    have J2 := J1.s2 ll1 ll2 ll3 sb2 hi2
    refine wpAny_pure ?_
    refine wpAny_bind (wpAny_bind (wpAny_holding ?_))
    show wpAny _ _ (Builtin.SmallTypes.nextOf (.ref (n + 2)) >>= fun v => pure (some v)) _ _ _
    refine wpAny_bind (nextOf_tuple_item J2.i3 J2.t3 hu fun g3 hi3 sb3 => wpAny_pure ?_)
    have J3 := J2.s3 ll1 ll2 ll3 sb3 hi3
    refine wpAny_pure ?_
    refine wpAny_pure ?_
    show wpAny _ _ (newTuple [x, y, u] >>= _) _ _ _
    refine wpAny_bind (wpAny_newTuple ?_)
    have sz3 : g3.objs.size = s.heap.objs.size := by rw [sb3.1, sb2.1, sb1.1, sz0]
    have hz3 := xb sb3 (n + 5) _ (by omega) (xb sb2 (n + 5) _ (by omega) (xb sb1 (n + 5) _ (by omega) ho))
    have up : ∀ c o, c ≠ n + 5 → g3.get? c = some o → (g3.push { cls := .type "tuple", data := .seq #[x, y, u] }).get? c = some o := fun c o _ e => Heap.get?_push_of_some _ e
    have J4 := It3.but ll1 ll2 ll3 J3 up
    refine wpAny_pure ⟨_, rfl, hQ g3.objs.size _ ⟨⟨f0, f1, hf, Heap.get?_push_of_some _ hz3⟩, J4.ti, ⟨_, _, _, J4.to⟩, J4.i1, J4.i2, J4.i3, J4.t1, J4.t2, J4.t3⟩ (Heap.get?_push_size _ rfl) (Nat.le_of_eq sz3.symm) fun c o hc e => ?_⟩
    obtain ⟨c1, c2, c3, c4, c5⟩ := kw hc
    exact Heap.get?_push_of_some _ (xb sb3 _ _ c5 (xb sb2 _ _ c4 (xb sb1 _ _ c3 (xb sb0 _ _ c1 e))))
theorem end3 {n l1 l2 l3 : Nat} {as bs cs : Array Value} {k : Nat} {Q : Fin → Shared → Prop} (hh : A.handled = none) (ll1 : l1 < n) (ll2 : l2 < n) (ll3 : l3 < n) (Z : Z3 n l1 l2 l3 as bs cs k s.heap) (hx : as[k]? = none)
    (hE : ∀ h' e, (∀ c o, c ∉ wr3 n → s.heap.get? c = some o → h'.get? c = some o) → (∃ o, h'.get? e = some o ∧ o.cls = .type "StopIteration") → E (.ref e) { s with heap := h' }) :
    wpAny (model prog w) A (Builtin.«zip.__next__» ⟨[.ref (n + 5)], []⟩) Q E s := by
  obtain ⟨hz, hti, ⟨a, b, c, hto⟩, h1, h2, h3, t1, t2, t3⟩ := Z
  obtain ⟨f0, f1, hf, ho⟩ := id hz
  show wpAny _ _ (field (.ref (n + 5)) 2 >>= _) _ _ _
  refine wpAny_bind (wpAny_field ho rfl (x := .bool false) rfl ?_)
  show wpAny _ _ (field (.ref (n + 5)) 3 >>= _) _ _ _
  refine wpAny_bind (wpAny_field ho rfl (x := .ref (n + 3)) rfl ?_)
  refine wpAny_bind (wpAny_seqItems hti rfl ?_)
  show wpAny _ _ (Builtin.SmallTypes.ownedTupleIsFree (.ref (n + 5)) >>= _) _ _ _
  refine wpAny_bind (free3 hz fun fr g0 hz0 sb0 => ?_)
  have J0 : It3 n l1 l2 l3 as bs cs k k k a b c g0 := It3.but ll1 ll2 ll3 ⟨hti, hto, h1, h2, h3, t1, t2, t3⟩ fun b o hb e => sb0.extBut b o hb e
  have nlt : n + 5 < s.heap.objs.size := Heap.lt_size ho
  clear hz ho hf f0 f1 hti hto h1 h2 h3 t1 t2 t3
  obtain ⟨f0, f1, hf, ho⟩ := hz0
  have kw : ∀ {c}, c ∉ wr3 n → c ≠ n + 5 ∧ c ≠ n + 4 ∧ c ≠ n ∧ c ≠ n + 1 ∧ c ≠ n + 2 := fun h => by simpa [wr3] using h
  have xe : ∀ {d : Nat} {h h' : Heap}, Heap.ExtBut d h h' → ∀ (b : Nat) o, b ≠ d → h.get? b = some o → h'.get? b = some o := fun s b o hb e => s b o hb e
  cases fr with
  | true =>
    simp only [if_true]
    refine wpAny_bind (wpAny_rule ?_)
    refine wpAny_bind (wpAny_field ho rfl (x := .ref (n + 4)) rfl ?_)
    refine wpAny_bind (wpAny_setField_rec ho (by simp) fun g1 hz1 sb1 => ?_)
    have J1 := It3.but ll1 ll2 ll3 J0 fun b o hb e => xb sb1 b o hb e
    refine wpAny_bind ?_
    simp only [List.zipIdx_cons, List.zipIdx_nil, List.forIn_cons, List.forIn_nil]
    refine wpAny_bind (wpAny_bind (wpAny_onRaise ?_))
    show wpAny _ _ (Builtin.SmallTypes.nextOf (.ref n) >>= _) _ _ _
    refine wpAny_bind (nextOf_tuple_end hh J1.i1 J1.t1 hx fun g2 e sb2 he => ?_)
    obtain ⟨oe, hoe, hce⟩ := he
    have hz2 := xe sb2 (n + 5) _ (by omega) hz1
    have hez : e ≠ n + 5 := fun x => by subst x; rw [hz2] at hoe; cases hoe; simp at hce
    refine wpAny_setField_rec hz2 (by simp) fun g3 _ sb3 => hE g3 e (fun c o hc z => ?_) ⟨oe, xb sb3 _ _ hez hoe, hce⟩
    obtain ⟨c1, c2, c3, c4, c5⟩ := kw hc
    exact xb sb3 _ _ c1 (xe sb2 _ _ c3 (xb sb1 _ _ c1 (xb sb0 _ _ c1 z)))
  | false =>
    simp only [Bool.false_eq_true, if_false]
    refine wpAny_bind ?_
    first
    | rw [List.forIn_toArray]
    | (rw [← Array.forIn_toList]; simp only [List.toList_toArray])
    simp only [List.forIn_cons, List.forIn_nil]
    refine wpAny_bind (wpAny_bind (wpAny_holding ?_))
    show wpAny _ _ (Builtin.SmallTypes.nextOf (.ref n) >>= fun v => pure (some v)) _ _ _
    refine wpAny_bind (nextOf_tuple_end hh J0.i1 J0.t1 hx fun g2 e sb2 he => hE g2 e (fun c o hc z => ?_) he)
    obtain ⟨c1, c2, c3, c4, c5⟩ := kw hc
    exact xe sb2 _ _ c3 (xb sb0 _ _ c1 z)
theorem Z3.typeIs {n l1 l2 l3 : Nat} {as bs cs : Array Value} {k : Nat} (Z : Z3 n l1 l2 l3 as bs cs k s.heap) : s.TypeIs (.ref (n + 5)) "zip" := by
  obtain ⟨f0, f1, hf, ho⟩ := Z.z
  exact ⟨_, ho, rfl⟩
end
section
variable {prog : Program} {w : World} {A : Around} {E : Value → Shared → Prop} {s : Shared}
theorem pyNext3 {n l1 l2 l3 : Nat} {as bs cs : Array Value} {k : Nat} {x y u : Value} {Q : Option Value → Shared → Prop} (ll1 : l1 < n) (ll2 : l2 < n) (ll3 : l3 < n) (Z : Z3 n l1 l2 l3 as bs cs k s.heap) (hx : as[k]? = some x) (hy : bs[k]? = some y) (hu : cs[k]? = some u)
    (hQ : ∀ (t : Nat) h', Z3 n l1 l2 l3 as bs cs (k + 1) h' → IsThree h' t x y u → s.heap.objs.size ≤ t → (∀ c o, c ∉ wr3 n → s.heap.get? c = some o → h'.get? c = some o) → Q (some (.ref t)) { s with heap := h' }) :
    wpAny (model prog w) A (pyNext (.ref (n + 5))) Q E s := by
  have hT := Z3.typeIs Z
  unfold pyNext
  exact wpAny_bind (wpAny_attempt (wpAny_callSpecial?_slot (name := Str.ofString "__next__") hT F.slot_zip_next
    (wpAny_call_entry F.slot_zip_next hT F.entry_zip_next
      (next3 ll1 ll2 ll3 Z hx hy hu fun t h' a1 a2 a3 a4 => wpAny_pure (hQ t h' a1 a2 a3 a4)) (F.args_zip_next_1 _))))
theorem pyNext3e {n l1 l2 l3 : Nat} {as bs cs : Array Value} {k : Nat} {Q : Option Value → Shared → Prop} (hh : A.handled = none) (ll1 : l1 < n) (ll2 : l2 < n) (ll3 : l3 < n) (Z : Z3 n l1 l2 l3 as bs cs k s.heap) (hx : as[k]? = none)
    (hQ : ∀ h', (∀ c o, c ∉ wr3 n → s.heap.get? c = some o → h'.get? c = some o) → Q none { s with heap := h' }) :
    wpAny (model prog w) A (pyNext (.ref (n + 5))) Q E s := by
  have hT := Z3.typeIs Z
  unfold pyNext
  refine wpAny_bind (wpAny_attempt (wpAny_callSpecial?_slot (name := Str.ofString "__next__") hT F.slot_zip_next
    (wpAny_call_entry F.slot_zip_next hT F.entry_zip_next (end3 hh ll1 ll2 ll3 Z hx fun h' e hk he => ?_) (F.args_zip_next_1 _))))
  obtain ⟨o, ho, hc⟩ := he
  refine wpAny_bind (wpAny_isInstance (T := "StopIteration") (b := true) ⟨o, ho, hc⟩ isSubtype_stop ?_)
  exact wpAny_pure (hQ _ hk)
theorem self3 {n l1 l2 l3 : Nat} {as bs cs : Array Value} {k : Nat} {Q : Value → Shared → Prop} (Z : Z3 n l1 l2 l3 as bs cs k s.heap) (h : Q (.ref (n + 5)) s) : wpAny (model prog w) A (pyIter (.ref (n + 5))) Q E s := by
  have hT := Z3.typeIs Z
  refine wpAny_pyIter_slot hT F.slot_zip_iter (wpAny_call_entry F.slot_zip_iter hT F.entry_zip_iter ?_ (F.args_zip_iter_1 _))
  show wpAny _ _ (ret (.ref (n + 5))) _ _ s
  exact wpAny_pure ⟨_, rfl, "zip", _, hT, F.slot_zip_next.lookup, h⟩
end
/-- the tuples told so far -/
structure Told3 (as bs cs : Array Value) (n S : Nat) (h : Heap) (ts : List Nat) : Prop where
  at_ : ∀ (q t : Nat), ts[q]? = some t → (t ≠ S ∧ n + 5 < t) ∧ ∃ x y u, as[q]? = some x ∧ bs[q]? = some y ∧ cs[q]? = some u ∧ IsThree h t x y u
  rise : ts.Pairwise (· < ·)
theorem far3 {n t : Nat} (h : n + 5 < t) : t ∉ wr3 n := fun z => by
  simp [wr3] at z
  omega
theorem Told3.keeps {as bs cs : Array Value} {n S : Nat} {h h' : Heap} {ts : List Nat} (T : Told3 as bs cs n S h ts) (k : ∀ b o, b ≠ S → b ∉ wr3 n → h.get? b = some o → h'.get? b = some o) : Told3 as bs cs n S h' ts := ⟨fun q t e => by
  obtain ⟨⟨t1, t2⟩, x, y, u, e1, e2, e3, e4⟩ := T.at_ q t e
  exact ⟨⟨t1, t2⟩, x, y, u, e1, e2, e3, k _ _ t1 (far3 t2) e4⟩, T.rise⟩
theorem fp_wr {n l1 l2 l3 S b : Nat} (h : b ∈ fp3 n l1 l2 l3) (hS : S ∉ fp3 n l1 l2 l3) : b ≠ S := fun e => hS (e ▸ h)
theorem loop3 {prog : Program} {w : World} {A : Around} {R : Result → Shared → Prop} (hh : A.handled = none) {n l1 l2 l3 : Nat} (ll1 : l1 < n) (ll2 : l2 < n) (ll3 : l3 < n) {as bs cs : Array Value} {m : Nat} (ha : as.size = m) (hb : bs.size = m) (hc : cs.size = m) (hm : m ≤ sizeLine) (S : Nat) (hSf : S ∉ fp3 n l1 l2 l3) (res : Value) :
    ∀ (j i : Nat) (s : Shared) (acc : Array Value) (c : Nat) (ts : List Nat), m - i = j → i ≤ m → Z3 n l1 l2 l3 as bs cs i s.heap → s.heap.get? S = some { cls := .type "list", dict := none, data := .seq acc c, slots := #[] } → acc.toList = ts.map Value.ref → ts.length = i → Told3 as bs cs n S s.heap ts →
    (∀ h' acc' c' ts', (∀ b o, b ≠ S → b ∉ wr3 n → s.heap.get? b = some o → h'.get? b = some o) → h'.get? S = some { cls := .type "list", dict := none, data := .seq acc' c', slots := #[] } → acc'.toList = ts'.map Value.ref → ts'.length = m → Told3 as bs cs n S h' ts' → R (.ok (.ret res)) { s with heap := h' }) →
    codeAny (model prog w) A (.builtin "list.extend.loop" ⟨[.ref S, .ref (n + 5), res], []⟩) R s := by
  have hSw : S ∉ wr3 n := fun h => hSf (by simp [wr3] at h; simp [fp3]; omega)
  intro j
  induction j with
  | zero =>
    intro i s acc c ts hk hi Z hS hacc hts T hR
    refine codeAny_builtin F.entry_extend_loop ?_
    rw [Around.under_plainId F.plain_extend_loop _]
    show wpAny _ A.in1 (pyNext (.ref (n + 5)) >>= _) _ _ s
    refine wpAny_bind (pyNext3e hh ll1 ll2 ll3 Z (by simp; omega) fun h' k => ?_)
    exact wpAny_pure (hR h' acc c ts (fun b o _ hb e => k b o hb e) (k S _ hSw hS) hacc (by omega) (T.keeps fun b o _ hb e => k b o hb e))
  | succ j ih =>
    intro i s acc c ts hk hi Z hS hacc hts T hR
    have hlt : i < m := by omega
    refine codeAny_builtin F.entry_extend_loop ?_
    rw [Around.under_plainId F.plain_extend_loop _]
    show wpAny _ A.in1 (pyNext (.ref (n + 5)) >>= _) _ _ s
    have e1 : as[i]? = some as[i] := Array.getElem?_eq_getElem (by omega)
    have e2 : bs[i]? = some bs[i] := Array.getElem?_eq_getElem (by omega)
    have e3 : cs[i]? = some cs[i] := Array.getElem?_eq_getElem (by omega)
    have sS : S < s.heap.objs.size := Heap.lt_size hS
    have sn : n + 5 < s.heap.objs.size := by
      obtain ⟨_, _, _, ho⟩ := Z.z
      exact Heap.lt_size ho
    refine wpAny_bind (pyNext3 ll1 ll2 ll3 Z e1 e2 e3 fun t h' Z' hT ht k => ?_)
    have hS' := k S _ hSw hS
    have la : acc.size = i := by rw [← Array.length_toList, hacc, List.length_map, hts]
    show wpAny _ A.in1 (updateSeq S (·.push (.ref t)) >>= _) _ _ _
    refine wpAny_bind ?_
    have up : ∀ b o, b ≠ S → h'.get? b = some o → (h'.update S (Obj.mapSeq (·.push (Value.ref t)))).get? b = some o := fun b o hb e => (Heap.get?_update_other _ _ (Ne.symm hb)).trans e
    have tS : t ≠ S := by omega
    refine wpAny_updateSeq hS' rfl (wpAny_pure ⟨plainId_quiet F.plain_extend_loop _, ih (i + 1) _ (acc.push (.ref t)) _ (ts ++ [t]) (by omega) hlt (Z'.keeps fun b hb o e => up b o (fp_wr hb hSf) e) (Heap.get?_update_self _ hS' rfl) (by rw [Array.toList_push, hacc, List.map_append]; rfl) (by rw [List.length_append, hts]; rfl) ⟨fun q t' e => ?_, ?_⟩ fun h'' acc' c' ts' kk hS'' hacc' hl T' => ?_⟩)
      (by rw [la]; omega) (by show (acc.push (Value.ref t)).size ≤ sizeLine + 1; rw [Array.size_push, la]; omega)
    · rcases Nat.lt_or_ge q ts.length with hq | hq
      · rw [List.getElem?_append_left hq] at e
        obtain ⟨⟨t1, t2⟩, x, y, u, f1, f2, f3, f4⟩ := T.at_ q t' e
        exact ⟨⟨t1, t2⟩, x, y, u, f1, f2, f3, up _ _ t1 (k _ _ (far3 t2) f4)⟩
      · rw [List.getElem?_append_right hq] at e
        have hq0 : q - ts.length = 0 := by
          rcases Nat.eq_zero_or_pos (q - ts.length) with z | z
          · exact z
          · rw [List.getElem?_eq_none (by simp; omega)] at e
            cases e
        rw [hq0] at e
        cases e
        have : q = i := by omega
        subst this
        exact ⟨⟨tS, by omega⟩, _, _, _, e1, e2, e3, up _ _ tS hT⟩
    · refine List.pairwise_append.mpr ⟨T.rise, List.pairwise_singleton _ _, fun a ha b hb => ?_⟩
      rw [List.mem_singleton.mp hb]
      obtain ⟨q, hq⟩ := List.getElem?_of_mem ha
      obtain ⟨_, _, _, _, _, _, _, f4⟩ := T.at_ q a hq
      have : a < s.heap.objs.size := Heap.lt_size f4
      omega
    · exact hR h'' acc' c' ts' (fun b o h1 h2 e => kk b o h1 h2 (up b o h1 (k b o h2 e))) hS'' hacc' hl T'
/-- the facts that a zip's type gives no length -/
theorem nolen_zip : typeLookup (.type "zip") "__len__" = pure none := by rw [typeLookup_type, builtinLookup_eq_fast]; kernel_rfl
theorem nohint_zip : typeLookup (.type "zip") "__length_hint__" = pure none := by rw [typeLookup_type, builtinLookup_eq_fast]; kernel_rfl
section
variable {prog : Program} {w : World} {A : Around} {s : Shared} {R : Result → Shared → Prop}
theorem extend3 (hh : A.handled = none) {n l1 l2 l3 : Nat} (ll1 : l1 < n) (ll2 : l2 < n) (ll3 : l3 < n) {as bs cs : Array Value} {m : Nat} (ha : as.size = m) (hb : bs.size = m) (hc : cs.size = m) (hm : m ≤ sizeLine) (S : Nat) (hSf : S ∉ fp3 n l1 l2 l3) (res : Value) (c₀ : Nat)
    (Z : Z3 n l1 l2 l3 as bs cs 0 s.heap) (hS : s.heap.get? S = some { cls := .type "list", data := .seq #[] c₀ })
    (hR : ∀ h' acc' c' ts', (∀ b o, b ≠ S → b ∉ wr3 n → s.heap.get? b = some o → h'.get? b = some o) → h'.get? S = some { cls := .type "list", dict := none, data := .seq acc' c', slots := #[] } → acc'.toList = ts'.map Value.ref → ts'.length = m → Told3 as bs cs n S h' ts' → R (.ok (.ret res)) { s with heap := h' }) :
    wpAny (model prog w) A.in1 (Builtin.List.listExtendWith (.ref S) (.ref (n + 5)) res)
      (fun fin s' => match fin with | .done f => R (.ok f) s' | .again c' => c'.quiet = true ∧ codeAny (model prog w) A c' R s') (fun e s' => R (.error e) s') s := by
  have hSI : S ≠ n + 5 := fun e => hSf (by rw [e]; simp [fp3])
  unfold Builtin.List.listExtendWith
  refine wpAny_bind (wpAny_typeOf (Z3.typeIs Z) ?_)
  have h1 : Builtin.List.listSameRef (.ref S) (.ref (n + 5)) = false := by simp [Builtin.List.listSameRef, hSI]
  have h2 : (Value.type "zip" == Value.type "list") = false := by decide
  have h3 : (Value.type "zip" == Value.type "tuple") = false := by decide
  simp only [h1, h2, h3, Bool.or_false, Bool.false_eq_true, if_false]
  refine wpAny_bind (self3 Z ?_)
  refine wpAny_bind (wpAny_holding ?_)
  unfold Builtin.List.listLengthHint
  refine wpAny_bind (wpAny_specialOf (Z3.typeIs Z) nolen_zip ?_)
  show wpAny _ A.in1 (specialOf (Value.ref (n + 5)) (Str.ofString "__length_hint__") >>= _) _ _ _
  refine wpAny_bind (wpAny_specialOf (Z3.typeIs Z) nohint_zip ?_)
  refine wpAny_pure ?_
  show wpAny _ A.in1 (rule "list.extend.makes-room" >>= fun _ => Builtin.List.listTouch (.ref S) >>= fun _ =>
    again (.builtin "list.extend.loop" ⟨[.ref S, .ref (n + 5), res], []⟩)) _ _ _
  refine wpAny_bind (wpAny_rule ?_)
  refine wpAny_bind ?_
  show wpAny _ A.in1 (updateSeq S (·.push .none) >>= fun _ => updateSeq S (·.pop)) _ _ _
  refine wpAny_bind (wpAny_updateSeq hS rfl ?_)
  have hS₂ := Heap.get?_update_self (Obj.mapSeq (·.push Value.none)) hS rfl
  refine wpAny_updateSeq (hz := by seq_fits) hS₂ rfl ?_
  have hS₃ := Heap.get?_update_self (Obj.mapSeq (·.pop)) hS₂ rfl
  have oth : ∀ b o, b ≠ S → s.heap.get? b = some o → ((s.heap.update S (Obj.mapSeq (·.push Value.none))).update S (Obj.mapSeq (·.pop))).get? b = some o :=
    fun b o hb e => (Heap.get?_update_other _ _ (Ne.symm hb)).trans ((Heap.get?_update_other _ _ (Ne.symm hb)).trans e)
  refine wpAny_pure ⟨plainId_quiet F.plain_extend_loop _, loop3 hh ll1 ll2 ll3 ha hb hc hm S hSf res m 0 _ _ _ [] rfl (Nat.zero_le _)
    (Z.keeps fun b hb o e => oth b o (fp_wr hb hSf) e) hS₃ rfl rfl ⟨(fun q t e => by cases e), List.Pairwise.nil⟩ fun h' acc' c' ts' k hS' hacc hl T => ?_⟩
  exact hR h' acc' c' ts' (fun b o b1 b2 e => k b o b1 b2 (oth b o b1 e)) hS' hacc hl T
theorem listInit3 (hh : A.handled = none) {n l1 l2 l3 : Nat} (ll1 : l1 < n) (ll2 : l2 < n) (ll3 : l3 < n) {as bs cs : Array Value} {m : Nat} (ha : as.size = m) (hb : bs.size = m) (hc : cs.size = m) (hm : m ≤ sizeLine) (S : Nat) (hSf : S ∉ fp3 n l1 l2 l3)
    (Z : Z3 n l1 l2 l3 as bs cs 0 s.heap) (hS : s.heap.get? S = some { cls := .type "list", data := .seq #[] })
    (hR : ∀ h' acc' c' ts', (∀ b o, b ≠ S → b ∉ wr3 n → s.heap.get? b = some o → h'.get? b = some o) → h'.get? S = some { cls := .type "list", dict := none, data := .seq acc' c', slots := #[] } → acc'.toList = ts'.map Value.ref → ts'.length = m → Told3 as bs cs n S h' ts' → R (.ok (.ret .none)) { s with heap := h' }) :
    wpAny (model prog w) A.in1 (Builtin.«list.__init__» ⟨[.ref S, .ref (n + 5)], []⟩)
      (fun fin s' => match fin with | .done f => R (.ok f) s' | .again c' => c'.quiet = true ∧ codeAny (model prog w) A c' R s') (fun e s' => R (.error e) s') s := by
  show wpAny _ A.in1 (do let old ← Builtin.List.listItems (.ref S); Builtin.List.listUpdate (.ref S) (fun _ => #[]); letGo old.toList.reverse; Builtin.List.listExtendWith (.ref S) (.ref (n + 5)) .none) _ _ s
  refine wpAny_bind ?_
  unfold Builtin.List.listItems
  refine wpAny_bind (wpAny_seqItems hS rfl (wpAny_pure ?_))
  show wpAny _ A.in1 (updateSeq S (fun _ => #[]) >>= fun _ => letGo (#[] : Array Value).toList.reverse >>= fun _ => Builtin.List.listExtendWith (.ref S) (.ref (n + 5)) .none) _ _ s
  refine wpAny_bind (wpAny_updateSeq hS rfl ?_)
  have hS₂ := Heap.get?_update_self (Obj.mapSeq (fun _ => (#[] : Array Value))) hS rfl
  have oth : ∀ b o, b ≠ S → s.heap.get? b = some o → (s.heap.update S (Obj.mapSeq (fun _ => (#[] : Array Value)))).get? b = some o :=
    fun b o hb e => (Heap.get?_update_other _ _ (Ne.symm hb)).trans e
  refine wpAny_bind (wpAny_letGo ?_)
  refine extend3 hh ll1 ll2 ll3 ha hb hc hm S hSf .none _ (Z.keeps fun b hb o e => oth b o (fp_wr hb hSf) e) hS₂ fun h' acc' c' ts' k hS' hacc hl T => ?_
  exact hR h' acc' c' ts' (fun b o b1 b2 e => k b o b1 b2 (oth b o b1 e)) hS' hacc hl T
end
section
variable {prog : Program} {w : World} {A : Around} {E : Value → Shared → Prop} {s : Shared}
theorem Z3.low {n l1 l2 l3 : Nat} {as bs cs : Array Value} {k : Nat} {h : Heap} (Z : Z3 n l1 l2 l3 as bs cs k h) (ll1 : l1 < n) (ll2 : l2 < n) (ll3 : l3 < n) : h.objs.size ∉ fp3 n l1 l2 l3 := fun hm => by
  obtain ⟨_, _, _, ho⟩ := Z.z
  have : n + 5 < h.objs.size := Heap.lt_size ho
  simp [fp3] at hm
  omega
theorem list3 {Q : Value → Shared → Prop} (hh : A.handled = none) {n l1 l2 l3 : Nat} (ll1 : l1 < n) (ll2 : l2 < n) (ll3 : l3 < n) {as bs cs : Array Value} {m : Nat} (ha : as.size = m) (hb : bs.size = m) (hc : cs.size = m) (hm : m ≤ sizeLine) (Z : Z3 n l1 l2 l3 as bs cs 0 s.heap)
    (hQ : ∀ h' acc' c' ts', (∀ b o, b ∉ wr3 n → s.heap.get? b = some o → h'.get? b = some o) → h'.get? s.heap.objs.size = some { cls := .type "list", dict := none, data := .seq acc' c', slots := #[] } → acc'.toList = ts'.map Value.ref → ts'.length = m → Told3 as bs cs n s.heap.objs.size h' ts' → Q (.ref s.heap.objs.size) { s with heap := h' }) :
    wpAny (model prog w) A (call (.type "list") [.ref (n + 5)]) Q E s := by
  have hSf := Z.low ll1 ll2 ll3
  have hh2 : A.in1.handled = none := hh
  refine callType_codes (Q₁ := fun obj s₁ => obj = .ref s.heap.objs.size ∧ s₁ = { s with heap := s.heap.push { cls := .type "list", data := .seq #[] } }) F.called_list (F.typeCall_list_1 _) F.entry_list_init
    (code_list_new _ ⟨rfl, rfl⟩) fun obj s₁ h₁ => ?_
  obtain ⟨rfl, rfl⟩ := h₁
  have hS : (s.heap.push { cls := .type "list", data := .seq #[] }).get? s.heap.objs.size = some { cls := .type "list", data := .seq #[] } := Heap.get?_push_size _ rfl
  refine ⟨⟨_, hS, rfl⟩, F.args_list_init_2 _ _, listInit3 hh2 ll1 ll2 ll3 ha hb hc hm _ hSf (Z.keeps fun b _ o e => Heap.get?_push_of_some _ e) hS fun h' acc' c' ts' k hS' hacc hl T => ?_⟩
  exact ⟨rfl, hQ h' acc' c' ts' (fun b o b2 e => k b o (fun z => absurd (Heap.lt_size e) (by rw [z]; exact Nat.lt_irrefl _)) b2 (Heap.get?_push_of_some _ e)) hS' hacc hl T⟩
theorem collect3 {Q : List Value → Shared → Prop} (hh : A.handled = none) {n l1 l2 l3 : Nat} (ll1 : l1 < n) (ll2 : l2 < n) (ll3 : l3 < n) {as bs cs : Array Value} {m : Nat} (ha : as.size = m) (hb : bs.size = m) (hc : cs.size = m) (hm : m ≤ sizeLine) (Z : Z3 n l1 l2 l3 as bs cs 0 s.heap)
    (hQ : ∀ h' ts', (∀ b o, b ∉ wr3 n → s.heap.get? b = some o → h'.get? b = some o) → ts'.length = m → Told3 as bs cs n s.heap.objs.size h' ts' → Q (ts'.map Value.ref) { s with heap := h' }) :
    wpAny (model prog w) A (collect (.ref (n + 5))) Q E s := by
  have hSf := Z.low ll1 ll2 ll3
  unfold collect
  refine wpAny_bind (wpAny_runValue (codeAny_builtin F.entry_proto_collect ?_))
  rw [Around.under_plainId F.plain_proto_collect _]
  show wpAny _ A.in1 (newList [] >>= fun l => again (.builtin "list.__iadd__" ⟨[l, .ref (n + 5)], []⟩)) _ _ s
  refine wpAny_bind (wpAny_newObj_type ?_)
  refine wpAny_pure ⟨plainId_quiet F.plain_list_iadd _, codeAny_builtin F.entry_list_iadd ?_⟩
  rw [Around.under_plainId F.plain_list_iadd _]
  have hS₁ : (s.heap.push { cls := .type "list", data := .seq ([] : List Value).toArray }).get? s.heap.objs.size = some { cls := .type "list", data := .seq ([] : List Value).toArray } := Heap.get?_push_size _ rfl
  show wpAny _ A.in1 (Builtin.List.listExtendWith (.ref s.heap.objs.size) (.ref (n + 5)) (.ref s.heap.objs.size)) _ _ _
  let R : Result → Shared → Prop := fun r s' => match r with
    | .ok (.ret v) => wpAny (model prog w) A (match v with
      | .ref a => do match (← load a).data with
          | .seq xs epoch => pure xs.toList
          | _ => unsupported "internal:collect"
      | _ => unsupported "internal:collect") Q E s'
    | .ok _ => False
    | .error e => E e s'
  have key := extend3 (prog := prog) (w := w) (A := A) (R := R) (s := { s with heap := s.heap.push { cls := .type "list", data := .seq ([] : List Value).toArray } }) hh ll1 ll2 ll3 ha hb hc hm s.heap.objs.size hSf (.ref s.heap.objs.size) 0 (Z.keeps fun b _ o e => Heap.get?_push_of_some _ e) hS₁ fun h' acc' c' ts' k hS' hacc hl T => by
    show wpAny _ A (load s.heap.objs.size >>= _) _ _ { s with heap := h' }
    refine wpAny_bind (wpAny_load hS' ?_)
    refine wpAny_pure ?_
    show Q acc'.toList _
    rw [hacc]
    exact hQ h' ts' (fun b o b2 e => k b o (fun z => absurd (Heap.lt_size e) (by rw [z]; exact Nat.lt_irrefl _)) b2 (Heap.get?_push_of_some _ e)) hl T
  exact key
theorem codeTup3 {Q₁ : Value → Shared → Prop} (hh : A.handled = none) {n l1 l2 l3 : Nat} (ll1 : l1 < n) (ll2 : l2 < n) (ll3 : l3 < n) {as bs cs : Array Value} {m : Nat} (ha : as.size = m) (hb : bs.size = m) (hc : cs.size = m) (hm : m ≤ sizeLine) (Z : Z3 n l1 l2 l3 as bs cs 0 s.heap)
    (h : ∀ h' ts', (∀ b o, b ∉ wr3 n → s.heap.get? b = some o → h'.get? b = some o) → ts'.length = m → Told3 as bs cs n s.heap.objs.size h' ts' → Q₁ (.ref h'.objs.size) { s with heap := h'.push { cls := .type "tuple", data := .seq (ts'.map Value.ref).toArray } }) :
    codeAny (model prog w) A (.call (.builtin "tuple.__new__") ⟨[.type "tuple", .ref (n + 5)], []⟩) (wants Q₁ E) s := by
  refine codeAny_of_tree ?_
  show wpAny _ A.in1 (do checkBuiltinCall "tuple.__new__" ⟨[.type "tuple", .ref (n + 5)], []⟩; again (.builtin "tuple.__new__" ⟨[.type "tuple", .ref (n + 5)], []⟩)) _ _ s
  refine wpAny_bind (wpAny_of_eq (F.newCall_tuple_1 _) (wpAny_pure ⟨plainId_quiet F.plain_tuple_new _, codeAny_builtin F.entry_tuple_new ?_⟩))
  rw [Around.under_plainId F.plain_tuple_new _]
  have hsub := sub_tuple_self
  have hinit := init_tuple_lookup
  have hmh := madeHere_tuple
  have hTI : s.TypeIs (.ref (n + 5)) "zip" := Z3.typeIs Z
  have hh1 : A.in1.handled = none := hh
  wp_walk using wpAny_typeOf hTI, collect3 (A := A.in1) hh1 ll1 ll2 ll3 ha hb hc hm Z
  intro h' ts' hk hl T
  show wpAny _ _ (Builtin.Tuple.tupleExact (ts'.map Value.ref).toArray >>= fun v => ret v) _ _ _
  unfold Builtin.Tuple.tupleExact
  refine wpAny_bind (wpAny_newObj_type ?_ (by show (ts'.map Value.ref).toArray.size ≤ sizeLine; rw [List.size_toArray, List.length_map, hl]; exact hm))
  exact wpAny_pure (h h' ts' hk hl T)
theorem tup3 {Q : Value → Shared → Prop} (hh : A.handled = none) {n l1 l2 l3 : Nat} (ll1 : l1 < n) (ll2 : l2 < n) (ll3 : l3 < n) {as bs cs : Array Value} {m : Nat} (ha : as.size = m) (hb : bs.size = m) (hc : cs.size = m) (hm : m ≤ sizeLine) (Z : Z3 n l1 l2 l3 as bs cs 0 s.heap)
    (hQ : ∀ h' ts', (∀ b o, b ∉ wr3 n → s.heap.get? b = some o → h'.get? b = some o) → ts'.length = m → Told3 as bs cs n s.heap.objs.size h' ts' → Q (.ref h'.objs.size) { s with heap := h'.push { cls := .type "tuple", data := .seq (ts'.map Value.ref).toArray } }) :
    wpAny (model prog w) A (call (.type "tuple") [.ref (n + 5)]) Q E s := by
  refine callType_codes (Q₁ := fun obj s₁ => s₁.TypeIs obj "tuple" ∧ Q obj s₁) F.called_tuple (F.typeCall_tuple_1 _) F.entry_object_init
    (codeTup3 (A := A.in1) hh ll1 ll2 ll3 ha hb hc hm Z fun h' ts' hk hl T => ⟨⟨_, Heap.get?_push_size _ rfl, rfl⟩, hQ h' ts' hk hl T⟩) fun obj s₁ h₁ => ?_
  exact ⟨h₁.1, F.args_object_init_2 obj _, object_init_meets F.called_tuple.init.lookup F.called_tuple.made (by decide) prog w A.in1 _ s₁ ⟨h₁.1, rfl, h₁.2⟩⟩
end
theorem typeCall3 (a b c : Value) : checkTypeCall "zip" ⟨[a, b, c], []⟩ = pure () := by kernel_rfl
theorem newCall3 (a b c : Value) : checkBuiltinCall "zip.__new__" ⟨[.type "zip", a, b, c], []⟩ = pure () := by kernel_rfl
theorem argsInit4 (a b c d : Value) : argsOk "object.__init__" ⟨[a, b, c, d], []⟩ := by
  unfold argsOk; rw [signature?_of (id := "object.__init__") (n := ['_', '_', 't', 'i', 'n', 'i', '_', '_']) (o := ['t', 'c', 'e', 'j', 'b', 'o']) (by kernel_rfl) F.owner_object]; kernel_rfl
abbrev zh1 (h : Heap) (l : Addr) : Heap := h.push { cls := .type "tuple_iterator", data := .fields #[.ref l, .int 0 0] }
abbrev zh3 (h : Heap) (l1 l2 l3 : Addr) : Heap := zh1 (zh1 (zh1 h l1) l2) l3
abbrev zh4 (h : Heap) (l1 l2 l3 : Addr) : Heap := (zh3 h l1 l2 l3).push { cls := .type "tuple", data := .seq #[.ref h.objs.size, .ref (zh1 h l1).objs.size, .ref (zh1 (zh1 h l1) l2).objs.size] }
abbrev zh5 (h : Heap) (l1 l2 l3 : Addr) : Heap := (zh4 h l1 l2 l3).push { cls := .type "tuple", data := .seq #[.none, .none, .none] }
abbrev zh6 (h : Heap) (l1 l2 l3 : Addr) : Heap := (zh5 h l1 l2 l3).push { cls := .type "zip", data := .fields #[.none, .bool false, .bool false, .ref (zh3 h l1 l2 l3).objs.size, .ref (zh4 h l1 l2 l3).objs.size] }
theorem meetsNew3 (l1 l2 l3 : Addr) (xs ys zs : Array Value) :
    Meets (Builtin.«zip.__new__» ⟨[.type "zip", .ref l1, .ref l2, .ref l3], []⟩) (fun _ R s => s.heap.IsTuple l1 xs ∧ s.heap.IsTuple l2 ys ∧ s.heap.IsTuple l3 zs ∧
      R (.ok (.ret (.ref (zh5 s.heap l1 l2 l3).objs.size))) { s with heap := zh6 s.heap l1 l2 l3 }) :=
  .of_wp fun prog w A R s h => by
    obtain ⟨hp, g, d, tk, os⟩ := s; obtain ⟨hl1, hl2, hl3, h⟩ := h
    have hsub := sub_zip
    have hL1 : Heap.IsTuple (Shared.heap ⟨hp, g, d, tk, os⟩) l1 xs := hl1
    have hL2 : Heap.IsTuple (Shared.heap ⟨zh1 hp l1, g, d, tk, os⟩) l2 ys := Heap.IsTuple.push hl2 _
    have hL3 : Heap.IsTuple (Shared.heap ⟨zh1 (zh1 hp l1) l2, g, d, tk, os⟩) l3 zs := Heap.IsTuple.push (Heap.IsTuple.push hl3 _) _
    wp_walk using wpAny_pyIter_tuple hL1, wpAny_pyIter_tuple hL2, wpAny_pyIter_tuple hL3
    exact ⟨_, rfl, h⟩
section
variable {prog : Program} {w : World} {A : Around} {E : Value → Shared → Prop} {s : Shared}
theorem callZip3 {l1 l2 l3 : Nat} {xs ys zs : Array Value} {Q : Value → Shared → Prop} (hl1 : s.heap.IsTuple l1 xs) (hl2 : s.heap.IsTuple l2 ys) (hl3 : s.heap.IsTuple l3 zs)
    (h : ∀ (n : Nat) h', n = s.heap.objs.size → l1 < n → l2 < n → l3 < n → Z3 n l1 l2 l3 xs ys zs 0 h' → (∀ c o, s.heap.get? c = some o → h'.get? c = some o) → Q (.ref (n + 5)) { s with heap := h' }) :
    wpAny (model prog w) A (call (.type "zip") [.ref l1, .ref l2, .ref l3]) Q E s := by
  refine callType_new F.called_zip (by decide) (typeCall3 _ _ _) (newCall3 _ _ _) (fun obj => argsInit4 obj _ _ _) F.entry_zip_new
    (meetsNew3 l1 l2 l3 xs ys zs) ⟨hl1, hl2, hl3, ?_⟩
  have L : ∀ {l : Nat} {us : Array Value}, s.heap.IsTuple l us → l < s.heap.objs.size := fun ⟨_, ho, _⟩ => Heap.lt_size ho
  have ll1 := L hl1
  have ll2 := L hl2
  have ll3 := L hl3
  have z1 : (zh1 s.heap l1).objs.size = s.heap.objs.size + 1 := Heap.size_push ..
  have z2 : (zh1 (zh1 s.heap l1) l2).objs.size = s.heap.objs.size + 2 := by rw [Heap.size_push, z1]
  have z3 : (zh3 s.heap l1 l2 l3).objs.size = s.heap.objs.size + 3 := by rw [Heap.size_push, z2]
  have z4 : (zh4 s.heap l1 l2 l3).objs.size = s.heap.objs.size + 4 := by rw [Heap.size_push, z3]
  have z5 : (zh5 s.heap l1 l2 l3).objs.size = s.heap.objs.size + 5 := by rw [Heap.size_push, z4]
  have up : ∀ c o, s.heap.get? c = some o → (zh6 s.heap l1 l2 l3).get? c = some o := fun c o x => Heap.get?_push_of_some _ (Heap.get?_push_of_some _ (Heap.get?_push_of_some _ (Heap.get?_push_of_some _ (Heap.get?_push_of_some _ (Heap.get?_push_of_some _ x)))))
  have g6 : (zh6 s.heap l1 l2 l3).get? (zh5 s.heap l1 l2 l3).objs.size = some _ := Heap.get?_push_size _ rfl
  have g5 : (zh6 s.heap l1 l2 l3).get? (zh4 s.heap l1 l2 l3).objs.size = some _ := Heap.get?_push_of_some _ (Heap.get?_push_size _ rfl)
  have g4 : (zh6 s.heap l1 l2 l3).get? (zh3 s.heap l1 l2 l3).objs.size = some _ := Heap.get?_push_of_some _ (Heap.get?_push_of_some _ (Heap.get?_push_size _ rfl))
  have g3 : (zh6 s.heap l1 l2 l3).get? (zh1 (zh1 s.heap l1) l2).objs.size = some _ := Heap.get?_push_of_some _ (Heap.get?_push_of_some _ (Heap.get?_push_of_some _ (Heap.get?_push_size _ rfl)))
  have g2 : (zh6 s.heap l1 l2 l3).get? (zh1 s.heap l1).objs.size = some _ := Heap.get?_push_of_some _ (Heap.get?_push_of_some _ (Heap.get?_push_of_some _ (Heap.get?_push_of_some _ (Heap.get?_push_size _ rfl))))
  have g1 : (zh6 s.heap l1 l2 l3).get? s.heap.objs.size = some _ := Heap.get?_push_of_some _ (Heap.get?_push_of_some _ (Heap.get?_push_of_some _ (Heap.get?_push_of_some _ (Heap.get?_push_of_some _ (Heap.get?_push_size _ rfl)))))
  show _ ∧ _
  rw [z3, z4, z5] at g6
  rw [z1, z2, z3] at g4
  rw [z4] at g5
  rw [z2] at g3
  rw [z1] at g2
  rw [z5]
  exact ⟨⟨_, g6, rfl⟩, h _ _ rfl ll1 ll2 ll3 ⟨⟨_, _, .inl rfl, g6⟩, g4, ⟨_, _, _, g5⟩, ⟨_, g1, rfl, rfl⟩, ⟨_, g2, rfl, rfl⟩, ⟨_, g3, rfl, rfl⟩, hl1.at fun o e => up _ o e, hl2.at fun o e => up _ o e, hl3.at fun o e => up _ o e⟩ up⟩
/-- a built-in class called with one starred argument -/
theorem starType {M : Model} {A : Around} {E : Value → Shared → Prop} {s : Shared} {env : Env} {pos p : Pos} {T : String} {e : Expr} {Q : Value → Shared → Prop} (h : wpAny M A (eval e env) (fun v s₁ => PySem.W.StarOf M A E v (fun vs s₂ => wpAny M A (call (.type T) vs) Q E s₂) s₁) E s)
    (he : starEach [.Starred e p] env = [(true, eval e env)] := by rfl) : wpAny M A (callWith pos (.type T) [] (backTo pos (starEach [.Starred e p] env)) []) Q E s := by
  rw [he]
  have tail : ∀ {t : Sem Value} {s₁ : Shared}, wpAny M A t Q E s₁ → wpAny M A (t >>= fun r => holding [r] point >>= fun _ => pure r) Q E s₁ :=
    fun ht => wpAny_bind (wpAny_mono ht (fun r s₂ hr => wpAny_bind (wpAny_holding (wpAny_point (wpAny_pure hr)))) fun _ _ x => x)
  unfold callWith
  refine wpAny_bind (wpAny_holding (wpAny_mono (PySem.W.ks_lone (Q := fun a s₂ => wpAny M A (call (.type T) ([] ++ a.pos) a.kw) Q E s₂) h) (fun a s₁ h₁ => wpAny_bind (wpAny_standAt ?_)) fun _ _ x => x))
  have st : (backTo pos [(true, eval e env)]).any (·.1) = true := rfl
  simp only [st, Bool.true_or]
  refine wpAny_bind (wpAny_pure ?_)
  exact tail (wpAny_operating h₁)
end
end TCX
namespace TCX
open PySem PySem.Spec PyProof.Rows L2 RZ
/-! ### the rules -/
/-- the columns of three rows -/
def colsOf : List V → List V → List V → List (List V)
  | x :: xs, y :: ys, z :: zs => [x, y, z] :: colsOf xs ys zs
  | _, _, _ => []
theorem colsOf_len : ∀ {xs ys zs : List V} {m : Nat}, xs.length = m → ys.length = m → zs.length = m → (colsOf xs ys zs).length = m
  | [], _, _, _, h, _, _ => h
  | _ :: _, [], _, _, h, h', _ => by
    rw [← h'] at h
    cases h
  | _ :: _, _ :: _, [], _, h, _, h' => by
    rw [← h'] at h
    cases h
  | x :: xs, y :: ys, z :: zs, 0, h, _, _ => by cases h
  | x :: xs, y :: ys, z :: zs, m + 1, h, h', h'' => congrArg (· + 1) (colsOf_len (Nat.succ.inj h) (Nat.succ.inj h') (Nat.succ.inj h''))
theorem colsOf_get : ∀ {xs ys zs : List V} {i : Nat} {x y z : V}, xs[i]? = some x → ys[i]? = some y → zs[i]? = some z → (colsOf xs ys zs)[i]? = some [x, y, z]
  | _ :: _, _ :: _, _ :: _, 0, _, _, _, e1, e2, e3 => by
    cases e1
    cases e2
    cases e3
    rfl
  | _ :: xs, _ :: ys, _ :: zs, i + 1, _, _, _, e1, e2, e3 => colsOf_get (xs := xs) (ys := ys) (zs := zs) (i := i) e1 e2 e3
  | [], _, _, _, _, _, _, e, _, _ => by cases e
  | _ :: _, [], _, _, _, _, _, _, e, _ => by cases e
  | _ :: _, _ :: _, [], _, _, _, _, _, _, e => by cases e
/-- tuples at addresses -/
def TupsAt (H : Hp) (ts : List Addr) (ls : List (List V)) : Prop := Paired (fun (t : Addr) l => H t = some (.tup l)) ts ls
/-- zip(*e): three tuples of one length; the new things: p, and the tuples ts -/
def rZip3 (K : PySem.W.Frag) (mk : List V → HO) (x : V) (H : Hp) (Q : VK) : Prop := ∃ (t a b c : Addr) (xs ys zs : List V) (m : Nat), x = .ref t ∧ (SqT K H t [.ref a, .ref b, .ref c] ∨ SqL K H t [.ref a, .ref b, .ref c]) ∧ SqT K H a xs ∧ SqT K H b ys ∧ SqT K H c zs ∧ xs.length = m ∧ ys.length = m ∧ zs.length = m ∧ m ≤ 1000 ∧
  ∀ (ts : List Addr) p H', (∀ b o, H b = some o → H' b = some o) → H p = none → (∀ t ∈ ts, H t = none) → p ∉ ts → H' p = some (mk (ts.map V.ref)) → TupsAt H' ts (colsOf xs ys zs) → Q (.ref p) H'

def putL : Hp → List Addr → List (List V) → Hp
  | H, a :: as, l :: ls => putL (upd H a (.tup l)) as ls
  | H, _, _ => H
theorem putL_off {b : Addr} : ∀ (as : List Addr) (ls : List (List V)) (H : Hp), b ∉ as → putL H as ls b = H b
  | [], _, _, _ => rfl
  | _ :: _, [], _, _ => rfl
  | a :: as, l :: ls, H, h => by
    show putL (upd H a (.tup l)) as ls b = H b
    rw [putL_off as ls _ (fun z => h (List.mem_cons_of_mem _ z)), upd_ne (fun z => h (by rw [z]; exact List.mem_cons_self))]
theorem putL_at : ∀ (as : List Addr) (ls : List (List V)) (H : Hp), as.length = ls.length → as.Nodup → TupsAt (putL H as ls) as ls
  | [], [], _, _, _ => .nil
  | [], _ :: _, _, h, _ => by cases h
  | _ :: _, [], _, h, _ => by cases h
  | a :: as, l :: ls, H, h, hn => by
    have hn' := List.nodup_cons.mp hn
    refine .cons ?_ (putL_at as ls (upd H a (.tup l)) (Nat.succ.inj h) hn'.2)
    show putL (upd H a (.tup l)) as ls a = some (.tup l)
    rw [putL_off as ls _ hn'.1, upd_same]
section
variable {X : Cx} {pins : List (Addr × Obj)} {σ : L2.St} {H : Hp} {s : Shared}
theorem laidAll {H' : Hp} {h' : Heap} {tk : Nat} (I : Inv X pins σ H s) (hk : ∀ b o, s.heap.get? b = some o → h'.get? b = some o) (kp : ∀ b u, H b = some u → H' b = some u) (low : ∀ b o, s.heap.get? b = some o → H b = none → H' b = none) (new : ∀ b u, H' b = some u → H b = some u ∨ ObjOk X.prog X.w H' h' b u) : Inv X pins σ H' { s with heap := h', toks := tk } := by
  refine I.call' (ch := []) rfl ⟨fun b o q _ _ _ => hk b o q, fun b o q _ _ _ => ⟨o.slots, hk b o q⟩, fun b o q n _ => low b o q n, fun b o q _ => ⟨o, hk b o q⟩, fun b xs q => kp b _ q, fun b o u q => kp b _ q, fun b ps q => ⟨#[], by rw [kp b _ q]; simp⟩⟩ (fun b u q => ?_) I.bare fun b z => by simp at z
  rcases new b u q with z | z
  · exact (I.hok b u z).stay (fun d v _ y => hk d v y) (fun d y => kp d _ y) fun d xs y => kp d _ y
  · exact z
theorem told_tups {as bs cs : List Value} {xs ys zs : List V} {n S : Nat} {h : Heap} {ts : List Nat} (r1 : Vals xs as) (r2 : Vals ys bs) (r3 : Vals zs cs) (T : Told3 as.toArray bs.toArray cs.toArray n S h ts) (i : Nat) (t : Nat) (l : List V) (e1 : ts[i]? = some t) (e2 : (colsOf xs ys zs)[i]? = some l) :
    ∃ us, Vals l us ∧ h.get? t = some { cls := .type "tuple", data := .seq us.toArray } ∧ l.length = 3 := by
  obtain ⟨_, x, y, u, f1, f2, f3, f4⟩ := T.at_ i t e1
  have g : ∀ {vs : List V} {us : List Value} {w : Value}, Vals vs us → us.toArray[i]? = some w → ∃ v, vs[i]? = some v ∧ RelV v w := fun r e => by
    have e' : _ := e
    rw [List.getElem?_toArray] at e'
    have hl := r.length
    obtain ⟨hi, _⟩ := List.getElem?_eq_some_iff.mp e'
    obtain ⟨v, hv⟩ : ∃ v, _ = some v := ⟨_, List.getElem?_eq_getElem (by rw [hl]; exact hi)⟩
    obtain ⟨u', hu', ru⟩ := r.get hv
    rw [e'] at hu'
    cases hu'
    exact ⟨v, hv, ru⟩
  obtain ⟨v1, q1, p1⟩ := g r1 f1
  obtain ⟨v2, q2, p2⟩ := g r2 f2
  obtain ⟨v3, q3, p3⟩ := g r3 f3
  rw [colsOf_get q1 q2 q3] at e2
  cases e2
  exact ⟨[x, y, u], .cons p1 (.cons p2 (.cons p3 .nil)), f4, rfl⟩
theorem tups_ix : ∀ {H : Hp} {ts : List Addr} {ls : List (List V)}, TupsAt H ts ls → ∀ {b : Addr}, b ∈ ts → ∃ (i : Nat) (l : List V), ts[i]? = some b ∧ ls[i]? = some l ∧ H b = some (.tup l)
  | _, _, _, .cons h t, b, hb => by
    rcases List.mem_cons.mp hb with e | hb
    · rw [e]
      exact ⟨0, _, rfl, rfl, h⟩
    · obtain ⟨i, l, e1, e2, e3⟩ := tups_ix t hb
      exact ⟨i + 1, l, e1, e2, e3⟩
theorem low3 {n b : Nat} {h : Heap} {o : Obj} (en : n = h.objs.size) (e : h.get? b = some o) : b ∉ wr3 n := fun z => by
  have : b < h.objs.size := Heap.lt_size e
  simp [wr3] at z
  omega
theorem zip3_laid {h'' : Heap} {tk : Nat} {mk : List V → HO} {n S m : Nat} {as bs cs : List Value} {xs ys zs : List V} {ts : List Nat} (I : Inv X pins σ H s) (hk : ∀ b o, s.heap.get? b = some o → h''.get? b = some o) (ls : s.heap.objs.size ≤ S) (en : n = s.heap.objs.size) (ra : Vals xs as) (rb : Vals ys bs) (rc : Vals zs cs) (hm : ts.length ≤ sizeLine) (hl : ts.length = m) (l1 : xs.length = m) (l2 : ys.length = m) (l3 : zs.length = m) (T : Told3 as.toArray bs.toArray cs.toArray n S h'' ts)
    (mkO : ∀ H', (∀ b o, H b = some o → H' b = some o) → H S = none → ObjOk X.prog X.w H' h'' S (mk (ts.map V.ref))) :
    ∃ H' : Hp, Inv X pins σ H' { s with heap := h'', toks := tk } ∧ (∀ b o, H b = some o → H' b = some o) ∧ H S = none ∧ (∀ t ∈ ts, H t = none) ∧ S ∉ ts ∧ H' S = some (mk (ts.map V.ref)) ∧ TupsAt H' ts (colsOf xs ys zs) := by
  have fS : H S = none := I.hok.fresh ls
  have at1 : ∀ t ∈ ts, t ≠ S ∧ n + 5 < t := fun t ht => by
    obtain ⟨i, hi⟩ := List.getElem?_of_mem ht
    exact (T.at_ i t hi).1
  have new : ∀ t ∈ ts, H t = none := fun t ht => I.hok.fresh (by have := (at1 t ht).2; show s.heap.objs.size ≤ t; omega)
  have hSn : S ∉ ts := fun z => (at1 S z).1 rfl
  have nd : ts.Nodup := T.rise.imp fun h => Nat.ne_of_lt h
  have lc : (colsOf xs ys zs).length = m := colsOf_len l1 l2 l3
  have atP := putL_at ts (colsOf xs ys zs) (upd H S (mk (ts.map V.ref))) (by omega) nd
  have off : ∀ b, b ∉ ts → b ≠ S → putL (upd H S (mk (ts.map V.ref))) ts (colsOf xs ys zs) b = H b := fun b h1 h2 => by rw [putL_off ts _ _ h1, upd_ne h2]
  have eS : putL (upd H S (mk (ts.map V.ref))) ts (colsOf xs ys zs) S = some (mk (ts.map V.ref)) := by rw [putL_off ts _ _ hSn, upd_same]
  have kp : ∀ b u, H b = some u → putL (upd H S (mk (ts.map V.ref))) ts (colsOf xs ys zs) b = some u := fun b u e => by
    rw [off b (fun z => by rw [new b z] at e; cases e) (fun z => by rw [z, fS] at e; cases e)]
    exact e
  refine ⟨_, laidAll I hk kp (fun b o e nb => ?_) (fun b u e => ?_), kp, fS, new, hSn, eS, atP⟩
  · have lb : b < s.heap.objs.size := Heap.lt_size e
    rw [off b (fun z => Nat.lt_irrefl b (Nat.lt_of_lt_of_le lb (by rw [← en]; exact Nat.le_of_lt (Nat.lt_of_le_of_lt (Nat.le_add_right n 5) (at1 b z).2)))) (Nat.ne_of_lt (Nat.lt_of_lt_of_le lb ls))]
    exact nb
  · by_cases hb : b ∈ ts
    · obtain ⟨i, l, e1, e2, e3⟩ := tups_ix atP hb
      rw [e3] at e
      cases e
      obtain ⟨us, ru, gu, l3'⟩ := told_tups ra rb rc T i b l e1 e2
      exact .inr ⟨by show l.length ≤ sizeLine; rw [l3']; decide, us, ru, ⟨_, gu, rfl, _, rfl⟩⟩
    · by_cases hb2 : b = S
      · subst hb2
        rw [eS] at e
        cases e
        exact .inr (mkO _ kp fS)
      · rw [off b hb hb2] at e
        exact .inl e
def tZip3 (K : PySem.W.Frag) (mk : List V → HO) (te : TE) : TE := fun σ H Q => te σ H fun x H1 => rZip3 K mk x H1 Q
end
section
variable {X : Cx} {e : Expr} {te : TE} {p p2 p3 pos pos2 : Pos}
theorem pe_listZip3 (hc : X.calm = true) (hgl : Gl X "list") (hml : X.mg "list" = none) (hgz : Gl X "zip") (hmz : X.mg "zip" = none) (he : PE X e te)
    (hst : starEach [.Starred e p3] X.env = [(true, eval e X.env)] := by rfl)
    (hs2 : starEach [Expr.Call (.Name "zip" p2) [.Starred e p3] [] pos2] X.env = (false, eval (.Call (.Name "zip" p2) [.Starred e p3] [] pos2) X.env) :: starEach [] X.env := by rfl) :
    PE X (.Call (.Name "list" p) [.Call (.Name "zip" p2) [.Starred e p3] [] pos2] [] pos) (tZip3 X.K .lst te) := by
  refine ⟨fun pins s σ H Q I h => ?_⟩
  refine Call_ (ld_blt I hgl hml boot_list (PyProof.Rows.callWith_type1 (args_cons ?_ hs2) hs2))
  refine Call_ (ld_blt I hgz hmz PyProof.Rows.boot_zip (starType (thn (he.run pins s σ H _ I h) fun v s1 z => ?_) hst))
  obtain ⟨x, H1, I1, rx, t, a, b, c, xs, ys, zs, m, ex, ht, ha, hb, hcc, l1, l2, l3, hm, q⟩ := z
  subst ex
  obtain rfl : v = Value.ref t := rx
  refine StX.star_any I1 ht fun us s2 I2 rv => ?_
  match us, rv with
  | [_, _, _], .cons r1 (.cons r2 (.cons r3 .nil)) =>
    cases r1
    cases r2
    cases r3
    obtain ⟨as, ra, pa, _⟩ := I2.tuple ha
    obtain ⟨bs, rb, pb, _⟩ := I2.tuple hb
    obtain ⟨cs, rc, pc, _⟩ := I2.tuple hcc
    refine callZip3 pa pb pc fun n h' en ll1 ll2 ll3 Z hk => args_nil ?_
    have hmS : m ≤ sizeLine := Nat.le_trans hm (by decide)
    have sa : as.toArray.size = m := by rw [List.size_toArray, ← ra.length]; exact l1
    have sb : bs.toArray.size = m := by rw [List.size_toArray, ← rb.length]; exact l2
    have sc : cs.toArray.size = m := by rw [List.size_toArray, ← rc.length]; exact l3
    have I3 : Inv X pins σ H1 { s2 with heap := h' } := I2.kept (t' := s2.toks) hk
    refine list3 (s := { s2 with heap := h' }) (I3.ok.hd hc) ll1 ll2 ll3 sa sb sc hmS Z fun h'' acc' c' ts k hS hacc hl T => ?_
    have ls : s2.heap.objs.size ≤ h'.objs.size := by
      have : n + 5 < h'.objs.size := by
        obtain ⟨_, _, _, ho⟩ := Z.z
        exact Heap.lt_size ho
      omega
    have J := zip3_laid (tk := s2.toks) (mk := .lst) I2 (fun b o e => k b o (low3 en e) (hk b o e)) (S := h'.objs.size) (ls := ls) en ra rb rc (by rw [hl]; exact hmS) hl l1 l2 l3 T fun H' kp fS => ⟨by rw [List.length_map]; omega, acc'.toList, c', by rw [hacc]; exact LiI.vals_refs ts, by rw [Array.toArray_toList]; exact hS⟩
    obtain ⟨H', J1, J2, J3, J4, J5, J6, J7⟩ := J
    exact ⟨.ref _, H', J1, rfl, q ts _ H' J2 J3 J4 J5 J6 J7⟩
theorem Told3.re {as bs cs : Array Value} {n S : Nat} {h : Heap} {ts : List Nat} {o : Obj} (T : Told3 as bs cs n S h ts) : Told3 as bs cs n h.objs.size (h.push o) ts := ⟨fun q t e => by
  obtain ⟨⟨t1, t2⟩, x, y, u, e1, e2, e3, e4⟩ := T.at_ q t e
  exact ⟨⟨Nat.ne_of_lt (Heap.lt_size e4), t2⟩, x, y, u, e1, e2, e3, Heap.get?_push_of_some _ e4⟩, T.rise⟩
theorem pe_tupZip3 (hc : X.calm = true) (hgl : Gl X "tuple") (hml : X.mg "tuple" = none) (hgz : Gl X "zip") (hmz : X.mg "zip" = none) (he : PE X e te)
    (hst : starEach [.Starred e p3] X.env = [(true, eval e X.env)] := by rfl)
    (hs2 : starEach [Expr.Call (.Name "zip" p2) [.Starred e p3] [] pos2] X.env = (false, eval (.Call (.Name "zip" p2) [.Starred e p3] [] pos2) X.env) :: starEach [] X.env := by rfl) :
    PE X (.Call (.Name "tuple" p) [.Call (.Name "zip" p2) [.Starred e p3] [] pos2] [] pos) (tZip3 X.K .tup te) := by
  refine ⟨fun pins s σ H Q I h => ?_⟩
  refine Call_ (ld_blt I hgl hml boot_tuple (PyProof.Rows.callWith_type1 (args_cons ?_ hs2) hs2))
  refine Call_ (ld_blt I hgz hmz PyProof.Rows.boot_zip (starType (thn (he.run pins s σ H _ I h) fun v s1 z => ?_) hst))
  obtain ⟨x, H1, I1, rx, t, a, b, c, xs, ys, zs, m, ex, ht, ha, hb, hcc, l1, l2, l3, hm, q⟩ := z
  subst ex
  obtain rfl : v = Value.ref t := rx
  refine StX.star_any I1 ht fun us s2 I2 rv => ?_
  match us, rv with
  | [_, _, _], .cons r1 (.cons r2 (.cons r3 .nil)) =>
    cases r1
    cases r2
    cases r3
    obtain ⟨as, ra, pa, _⟩ := I2.tuple ha
    obtain ⟨bs, rb, pb, _⟩ := I2.tuple hb
    obtain ⟨cs, rc, pc, _⟩ := I2.tuple hcc
    refine callZip3 pa pb pc fun n h' en ll1 ll2 ll3 Z hk => args_nil ?_
    have hmS : m ≤ sizeLine := Nat.le_trans hm (by decide)
    have sa : as.toArray.size = m := by rw [List.size_toArray, ← ra.length]; exact l1
    have sb : bs.toArray.size = m := by rw [List.size_toArray, ← rb.length]; exact l2
    have sc : cs.toArray.size = m := by rw [List.size_toArray, ← rc.length]; exact l3
    have I3 : Inv X pins σ H1 { s2 with heap := h' } := I2.kept (t' := s2.toks) hk
    refine tup3 (s := { s2 with heap := h' }) (I3.ok.hd hc) ll1 ll2 ll3 sa sb sc hmS Z fun h'' ts k hl T => ?_
    have hk2 : ∀ b o, s2.heap.get? b = some o → h''.get? b = some o := fun b o e => k b o (low3 en e) (hk b o e)
    have ls : s2.heap.objs.size ≤ h''.objs.size := by
      have hti : h''.get? (n + 3) = _ := k _ _ (by simp [wr3]) Z.ti
      have : n + 3 < h''.objs.size := Heap.lt_size hti
      omega
    have J := zip3_laid (tk := s2.toks) (mk := .tup) I2 (fun b o e => Heap.get?_push_of_some _ (hk2 b o e)) (S := h''.objs.size) (ls := ls) en ra rb rc (by rw [hl]; exact hmS) hl l1 l2 l3 (T.re (o := { cls := .type "tuple", data := .seq (ts.map Value.ref).toArray })) fun H' kp fS => ⟨by rw [List.length_map]; omega, ts.map Value.ref, LiI.vals_refs ts, ⟨_, Heap.get?_push_size _ rfl, rfl, _, rfl⟩⟩
    obtain ⟨H', J1, J2, J3, J4, J5, J6, J7⟩ := J
    exact ⟨.ref _, H', J1, rfl, q ts _ H' J2 J3 J4 J5 J6 J7⟩
end
end TCX
namespace TCX
open PySem PySem.Spec PyProof.Rows L2
/-- the turns of a step range, for a list comprehension -/
theorem lc_rangeC {lo c : Int} {n : Nat} {g : TG} {tt : TT} {te : TE} {vs : List Nat} {σ : L2.St} {H1 : Hp} {D : Addr} {Qd : Hp → Prop} (Pv : Nat → Hp → Prop) (h0 : Pv 0 (upd H1 D (.lst [])))
    (hs : ∀ i H, i < n → Pv i H → g (.int (lo + (i : Nat) * c)) (wipe σ vs) H fun σ2 H2 => wipe σ2 vs = wipe σ vs ∧ tt σ2 H2 fun b H3 =>
      if b = true then te σ2 H3 fun y H4 => ∃ acc, H4 D = some (.lst acc) ∧ acc.length < sizeLine ∧ Pv (i + 1) (upd H4 D (.lst (acc ++ [y]))) else Pv (i + 1) H3) (hd : ∀ H, Pv n H → Qd H) :
    ∃ W : Nat → Nat → Hp → Prop, (∃ m, W 0 m (upd H1 D (.lst []))) ∧ ∀ i m H, W i m H →
      ((Itc lo c n).stop i H ∧ Qd H) ∨ ((Itc lo c n).go i H ∧ ∃ Nx : Hp → Prop, (∀ H', Nx H' → ∃ m', m' < m ∧ W (i + 1) m' H') ∧ ∀ x H', (Itc lo c n).yld i H x H' → g x (wipe σ vs) H' fun σ2 H2 => wipe σ2 vs = wipe σ vs ∧ tt σ2 H2 fun b H3 =>
        if b = true then te σ2 H3 fun y H4 => ∃ acc, H4 D = some (.lst acc) ∧ acc.length < sizeLine ∧ Nx (upd H4 D (.lst (acc ++ [y]))) else Nx H3) := by
  refine ⟨fun i m H => m = n - i ∧ i ≤ n ∧ Pv i H, ⟨n, by simp, Nat.zero_le _, h0⟩, ?_⟩
  rintro i m H ⟨rfl, hi, p⟩
  by_cases hlt : i < n
  · refine .inr ⟨hlt, Pv (i + 1), fun H' p' => ⟨n - (i + 1), by omega, rfl, hlt, p'⟩, fun x H' y => ?_⟩
    obtain ⟨e, y⟩ := y
    subst e y
    exact hs i _ hlt p
  · have e : i = n := by omega
    subst e
    exact .inl ⟨Nat.le_refl _, hd H p⟩
end TCX
namespace TC
open PySem PySem.Spec PyProof.Rows L2 TCA TCX
/-! ### K17Y: squares and steps on the heap -/
def rowV (S : Nat → Nat → Int) (i : Nat) : List V := [.int (S i 0), .int (S i 1), .int (S i 2)]
def SqA (H : Hp) (a : Addr) (S : Nat → Nat → Int) : Prop := ∃ r0 r1 r2 : Addr, H a = some (.tup [.ref r0, .ref r1, .ref r2]) ∧ H r0 = some (.tup (rowV S 0)) ∧ H r1 = some (.tup (rowV S 1)) ∧ H r2 = some (.tup (rowV S 2))
theorem SqA.same {H H' : Hp} {a : Addr} {S : Nat → Nat → Int} (h : SqA H a S) (s : Same H H') : SqA H' a S := by
  obtain ⟨r0, r1, r2, h1, h2, h3, h4⟩ := h
  exact ⟨r0, r1, r2, s _ _ h1, s _ _ h2, s _ _ h3, s _ _ h4⟩
theorem SqA.dp {K : PySem.W.Frag} {H : Hp} {a : Addr} {S : Nat → Nat → Int} (h : SqA H a S) : Dp K H (.ref a) (sqD (nine S)) := by
  obtain ⟨r0, r1, r2, h1, h2, h3, h4⟩ := h
  have row : ∀ {r : Addr} {x y z : Int}, H r = some (.tup [.int x, .int y, .int z]) → Dp K H (.ref r) (row3 x y z) := fun e => .tup (SqT.of e) (.cons (.int _) (.cons (.int _) (.cons (.int _) .nil)))
  exact .tup (SqT.of h1) (.cons (row h2) (.cons (row h3) (.cons (row h4) .nil)))
/-- the row at a place -/
theorem SqA.get {H : Hp} {a : Addr} {S : Nat → Nat → Int} (h : SqA H a S) : ∃ r : Nat → Addr, H a = some (.tup [.ref (r 0), .ref (r 1), .ref (r 2)]) ∧ ∀ i, i < 3 → H (r i) = some (.tup (rowV S i)) := by
  obtain ⟨r0, r1, r2, h1, h2, h3, h4⟩ := h
  refine ⟨fun i => if i = 0 then r0 else if i = 1 then r1 else r2, h1, fun i hi => ?_⟩
  have : i = 0 ∨ i = 1 ∨ i = 2 := by omega
  rcases this with rfl | rfl | rfl
  · exact h2
  · exact h3
  · exact h4
def StpAt (H : Hp) (u : Addr) : Stp → Prop
  | .r i j => H u = some (.tup [.str "rows", .int (i : Int), .int (j : Int)])
  | .c i j => H u = some (.tup [.str "columns", .int (i : Int), .int (j : Int)])
  | .t => H u = some (.tup [.str "turned"])
theorem StpAt.same {H H' : Hp} {u : Addr} {s : Stp} (h : StpAt H u s) (sm : Same H H') : StpAt H' u s := by
  cases s <;> exact sm _ _ h
def stpD : Stp → PyData
  | .r i j => .tuple [.str "rows", .int (i : Int), .int (j : Int)]
  | .c i j => .tuple [.str "columns", .int (i : Int), .int (j : Int)]
  | .t => .tuple [.str "turned"]
theorem StpAt.dp {K : PySem.W.Frag} {H : Hp} {u : Addr} {s : Stp} (h : StpAt H u s) : Dp K H (.ref u) (stpD s) := by
  cases s with
  | r i j => exact .tup (SqT.of h) (.cons (.str _) (.cons (.int _) (.cons (.int _) .nil)))
  | c i j => exact .tup (SqT.of h) (.cons (.str _) (.cons (.int _) (.cons (.int _) .nil)))
  | t => exact .tup (SqT.of h) (.cons (.str _) .nil)
theorem stp_shaped (s : Stp) : SeqAt.shaped (stpD s) = true := by
  have e1 : PyData.strOk (Str.ofString "rows") = true := by decide +kernel
  have e2 : PyData.strOk (Str.ofString "columns") = true := by decide +kernel
  have e3 : PyData.strOk (Str.ofString "turned") = true := by decide +kernel
  cases s <;> simp [stpD, SeqAt.shaped, PyData.canLay0, PyData.canLayAll0, PyData.depth, PyData.depthAll, e1, e2, e3]
theorem stp_turned (s : Stp) : PyData.eqv (stpD s) (.tuple [.str "turned"]) = !isEx s := by
  have e1 : PyData.eqv (.str "rows") (.str "turned") = false := by decide +kernel
  have e2 : PyData.eqv (.str "columns") (.str "turned") = false := by decide +kernel
  have e3 : PyData.eqv (.str "turned") (.str "turned") = true := by decide +kernel
  cases s <;> simp [stpD, PyData.eqv, PyData.eqvAll, isEx, e1, e2, e3]
def WayAt (H : Hp) (l : Addr) (ss : List Stp) : Prop := ∃ us : List Addr, H l = some (.lst (us.map V.ref)) ∧ us.length = ss.length ∧ ∀ (i : Nat) u s, us[i]? = some u → ss[i]? = some s → StpAt H u s
theorem WayAt.same {H H' : Hp} {l : Addr} {ss : List Stp} (h : WayAt H l ss) (sm : Same H H') : WayAt H' l ss := by
  obtain ⟨us, h1, h2, h3⟩ := h
  exact ⟨us, sm _ _ h1, h2, fun i u s e1 e2 => (h3 i u s e1 e2).same sm⟩
/-- the steps that the ways are made of -/
def okS : Stp → Prop
  | .r i j => (i, j) ∈ ([(0, 1), (0, 2), (1, 2)] : List (Nat × Nat))
  | .c i j => (i, j) ∈ ([(0, 1), (0, 2), (1, 2)] : List (Nat × Nat))
  | .t => True
end TC
namespace TC
open PySem PySem.Spec PyProof.Rows L2 TCA TCX
/-! ### K17PA: exchanged -/
def rTupOf (K : PySem.W.Frag) : List V → Hp → VK → Prop := fun xs H Q => ∃ p ys, xs = [V.ref p] ∧ ((SqL K H p ys ∧ ∀ l, H l = none → Q (.ref l) (upd H l (.tup ys))) ∨ (SqT K H p ys ∧ Q (.ref p) H))
def ord3 (i j : Nat) : List V := [.int (swapI i j 0 : Nat), .int (swapI i j 1 : Nat), .int (swapI i j 2 : Nat)]
theorem ord3_at {i j m : Nat} {x : V} (h : (ord3 i j)[m]? = some x) : m < 3 ∧ x = .int (swapI i j m : Nat) := by
  match m, h with
  | 0, h => exact ⟨by decide, (Option.some.inj h).symm⟩
  | 1, h => exact ⟨by decide, (Option.some.inj h).symm⟩
  | 2, h => exact ⟨by decide, (Option.some.inj h).symm⟩
  | m + 3, h => cases h
theorem at3 (x : Nat → V) {n : Nat} (h : n < 3) : atI [x 0, x 1, x 2] (n : Int) = some (x n) := by
  have : n = 0 ∨ n = 1 ∨ n = 2 := by omega
  rcases this with rfl | rfl | rfl
  · exact atI_nat (j := 0) rfl
  · exact atI_nat (j := 1) rfl
  · exact atI_nat (j := 2) rfl
theorem sw_lt {i j m : Nat} (h : (i, j) ∈ ([(0, 1), (0, 2), (1, 2)] : List (Nat × Nat))) (hm : m < 3) : swapI i j m < 3 := by
  have e : ∀ p ∈ ([(0, 1), (0, 2), (1, 2)] : List (Nat × Nat)), ∀ m ∈ List.range 3, swapI p.1 p.2 m < 3 := by decide
  exact e (i, j) h m (List.mem_range.mpr hm)
theorem take3 (x : Nat → V) {m : Nat} (h : m < 3) : [x 0, x 1, x 2].take (m + 1) = [x 0, x 1, x 2].take m ++ [x m] := by
  have : m = 0 ∨ m = 1 ∨ m = 2 := by omega
  rcases this with rfl | rfl | rfl <;> rfl
section
variable {P : Program} {w : World} {K : PySem.W.Frag} {mg : Str → Option Value} {base : Heap} {f : Addr} {fd : FuncData}
def spExchanged : Sp := fun vs H Q _ => ∃ (a u : Addr) (S : Nat → Nat → Int) (s : Stp), vs = [.ref a, .ref u] ∧ SqA H a S ∧ StpAt H u s ∧ okS s ∧ isEx s = true ∧ ∀ b H', Same H H' → SqA H' b (exch s S) → Q (.ref b) H'
abbrev nExchanged : List Str := ["square", "step", "word", "i", "j", "order", "at", "row"]
theorem scExchanged : FnScope nExchanged ["square", "step"] (defScope sExchanged) := ⟨rfl, rfl, rfl, by decide +kernel, rfl, by decide +kernel, by decide +kernel⟩
abbrev scExX : Scope := { kind := .function, names := [(".0", .local), ("row", .cell), ("tuple", .globalImplicit), ("order", .cell)], isGenerator := false, isCoroutine := false }
set_option maxHeartbeats 0 in
theorem ok_exchanged (F : FnP K "exchanged" sExchanged f fd) (gtuple : mg "tuple" = none) : FnOk P w K mg base CX0 1 f fd ["square", "step"] spExchanged := by
  refine F.ok scExchanged (fun vs H Q E h => ?_) (fun cdv Ar outer s H vs Q E hr h => ?_)
  · obtain ⟨_, _, _, _, rfl, _⟩ := h
    rfl
  obtain ⟨a, u, S, st, rfl, hS, hu, ok, ex, q⟩ := h
  refine ⟨_, PSs.nox (C8.pss_cut (ps_asg (pv 1) (pg_tup rfl (pgs_cons (pg_name (i := 2) scExchanged.nd rfl (.inl rfl)) (pgs_cons (pg_name (i := 3) scExchanged.nd rfl (.inl rfl)) (pgs_cons (pg_name (i := 4) scExchanged.nd rfl (.inl rfl)) pgs_nil)))))
      (C8.pss_cut (ps_set (i := 5) scExchanged.nd rfl (.inr rfl) (pe_lst (pa_cons pe_int (pa_cons pe_int (pa_cons pe_int pa_nil)))))
      (C8.pss_cut (ps_asg (pe_tup (pa_cons (pv 4) (pa_cons (pv 3) pa_nil))) (pg_tup rfl (pgs_cons (pg_sub (pv 5) (pv 3) set_list) (pgs_cons (pg_sub (pv 5) (pv 4) set_list) pgs_nil))))
      (pss_cons (ps_if (pt_cmpR op_eq (pv 2) pe_str (nomark _)) (pss_one (ps_ret (pe_callTy call_tuple_of (by rfl) gtuple (by decide +kernel) (pa_cons (pe_lc (own := [("at", 6)]) (g := gName 6) (tt := tYes) (te := (tOp (rIxT K) (tVar 0) (tVar 6))) (by rfl) scExchanged.nd (pi_list (pv 5))
          (blkOk_by (N := nExchanged) (sc := defScope sExchanged) (by decide +kernel)) (fun _ _ _ _ _ => pg_name (i := 6) scExchanged.nd rfl (.inl rfl)) (fun _ _ _ _ _ => pts_nil) (fun _ _ _ _ _ => (pe_ix ix_tup (pv 0) (pv 6) (fun _ _ => rfl)))) pa_nil)))) pss_nil)
      (pss_one (ps_ret (pe_callTy call_tuple_of (by rfl) gtuple (by decide +kernel) (pa_cons (pe_lc (own := [("row", 7)]) (g := gName 7) (tt := tYes) (te := tCB (rTupOf K) (tCons (tLc (iList K (tVar 5)) (gName 6) tYes (tOp (rIxT K) (tVar 7) (tVar 6)) [6]) tNil)) (by rfl) scExchanged.nd (pi_tup (pv 0))
          (blkOk_by (N := nExchanged) (sc := defScope sExchanged) (by decide +kernel)) (fun _ _ _ _ _ => pg_name (i := 7) scExchanged.nd rfl (.inr rfl)) (fun _ _ _ _ _ => pts_nil) (fun _ _ _ _ _ => (pe_callTy call_tuple_of (by rfl) gtuple (by decide +kernel) (pa_cons (pe_lc (own := [("at", 6)]) (g := gName 6) (tt := tYes) (te := (tOp (rIxT K) (tVar 7) (tVar 6))) (by rfl) scExchanged.nd (pi_list (pv 5))
          (blkOk_by (N := nExchanged) (sc := scExX) (by decide +kernel)) (fun _ _ _ _ _ => pg_name (i := 6) scExchanged.nd rfl (.inl rfl)) (fun _ _ _ _ _ => pts_nil) (fun _ _ _ _ _ => (pe_ix ix_tup (pv 7) (pv 6) (fun _ _ => rfl)))) pa_nil)))) pa_nil)))))))), ?_⟩
  obtain ⟨wd, i, j, hij, hst, hw⟩ : ∃ (wd : Str) (i j : Nat), (i, j) ∈ ([(0, 1), (0, 2), (1, 2)] : List (Nat × Nat)) ∧ H u = some (.tup [.str wd, .int (i : Int), .int (j : Int)]) ∧ ((wd = "rows" ∧ st = .r i j) ∨ (wd = "columns" ∧ st = .c i j)) := by
    cases st with
    | r i j => exact ⟨_, i, j, ok, hu, .inl ⟨rfl, rfl⟩⟩
    | c i j => exact ⟨_, i, j, ok, hu, .inr ⟨rfl, rfl⟩⟩
    | t => cases ex
  refine ⟨fun σ H1 => σ = [some (.ref a), some (.ref u), some (.str wd), some (.int (i : Int)), some (.int (j : Int)), none, none, none] ∧ H1 = H, ⟨_, rfl, u, _, rfl, SqT.of hst, rfl, _, _, rfl, _, _, rfl, _, _, rfl, rfl, rfl, rfl⟩, fun σ H1 hh => ?_⟩
  obtain ⟨rfl, rfl⟩ := hh
  refine ⟨fun σ H2 => ∃ lo : Addr, σ = [some (.ref a), some (.ref u), some (.str wd), some (.int (i : Int)), some (.int (j : Int)), some (.ref lo), none, none] ∧ H1 lo = none ∧ H2 = upd H1 lo (.lst [.int 0, .int 1, .int 2]), ⟨by show 3 ≤ sizeLine; decide, fun lo hlo => ⟨lo, rfl, hlo, rfl⟩⟩, fun σ H2 hh => ?_⟩
  obtain ⟨lo, rfl, hlo, rfl⟩ := hh
  refine ⟨fun σ H3 => σ = [some (.ref a), some (.ref u), some (.str wd), some (.int (i : Int)), some (.int (j : Int)), some (.ref lo), none, none] ∧ Same H1 H3 ∧ H3 lo = some (.lst (ord3 i j)), ?_, fun σ H3 hh => ?_⟩
  · refine ⟨_, rfl, _, rfl, by show 2 ≤ sizeLine; decide, fun t ht => ?_⟩
    have tl : t ≠ lo := fun e => by rw [e, upd_same] at ht; cases ht
    have hl : (upd (upd H1 lo (.lst [.int 0, .int 1, .int 2])) t (.tup [.int (j : Int), .int (i : Int)])) lo = some (.lst [.int 0, .int 1, .int 2]) := by
      rw [upd_ne tl.symm]
      exact upd_same
    have sm : ∀ {xs ys : List V}, Same H1 (upd (upd (upd (upd H1 lo (.lst [.int 0, .int 1, .int 2])) t (.tup [.int (j : Int), .int (i : Int)])) lo (.lst xs)) lo (.lst ys)) := fun {xs ys} b o e => by
      have n1 : b ≠ lo := fun z => by rw [z, hlo] at e; cases e
      rw [upd_ne n1, upd_ne n1]
      exact same_upd ht _ _ (same_upd hlo _ _ e)
    simp only [List.mem_cons, List.not_mem_nil, or_false, Prod.mk.injEq] at hij
    rcases hij with ⟨rfl, rfl⟩ | ⟨rfl, rfl⟩ | ⟨rfl, rfl⟩
    · exact ⟨t, _, rfl, SqT.of upd_same, rfl, _, _, rfl, _, rfl, _, rfl, lo, _, _, 0, rfl, rfl, hl, rfl, _, _, rfl, _, rfl, _, rfl, lo, _, _, 1, rfl, rfl, upd_same, rfl, rfl, rfl, sm, upd_same⟩
    · exact ⟨t, _, rfl, SqT.of upd_same, rfl, _, _, rfl, _, rfl, _, rfl, lo, _, _, 0, rfl, rfl, hl, rfl, _, _, rfl, _, rfl, _, rfl, lo, _, _, 2, rfl, rfl, upd_same, rfl, rfl, rfl, sm, upd_same⟩
    · exact ⟨t, _, rfl, SqT.of upd_same, rfl, _, _, rfl, _, rfl, _, rfl, lo, _, _, 1, rfl, rfl, hl, rfl, _, _, rfl, _, rfl, _, rfl, lo, _, _, 2, rfl, rfl, upd_same, rfl, rfl, rfl, sm, upd_same⟩
  obtain ⟨rfl, s3, hlo3⟩ := hh
  obtain ⟨r, hr0, hrow⟩ := (hS.same s3).get
  rcases hw with ⟨rfl, rfl⟩ | ⟨rfl, rfl⟩
  · refine ⟨_, rfl, rfl, true, by decide +kernel, iteT ?_⟩
    refine ⟨_, rfl, lo, rfl, ⟨_, SqL.of hlo3⟩, fun D hD => lc_list (xs := ord3 i j) (fun m G => Same H3 G ∧ G D = some (.lst ([V.ref (r (swapI i j 0)), .ref (r (swapI i j 1)), .ref (r (swapI i j 2))].take m))) ⟨same_upd hD, upd_same⟩ (fun m G _ hP => SqL.of (hP.1 _ _ hlo3)) (fun m x G hx hP => ?_) (fun G hP => ?_)⟩
    · obtain ⟨sG, hG⟩ := hP
      obtain ⟨m3, rfl⟩ := ord3_at hx
      refine ⟨rfl, ?_⟩
      refine ⟨_, rfl, _, rfl, a, _, _, _, rfl, rfl, SqT.of (sG _ _ hr0), at3 (fun n => .ref (r n)) (sw_lt hij m3), _, hG, ?_, same_at sG hD, ?_⟩
      · exact Nat.lt_of_le_of_lt (List.length_take_le _ _) (by show m < sizeLine; rw [sizeLine_eq]; omega)
      · rw [upd_same, ← take3 (fun n => V.ref (r (swapI i j n))) m3]
    · obtain ⟨sG, hG⟩ := hP
      refine ⟨D, _, rfl, .inl ⟨SqL.of hG, fun l hl => ?_⟩⟩
      have sl := same_upd (o := .tup ([V.ref (r (swapI i j 0)), .ref (r (swapI i j 1)), .ref (r (swapI i j 2))].take (ord3 i j).length)) hl
      have rows : ∀ m, m < 3 → (upd G l (.tup ([V.ref (r (swapI i j 0)), .ref (r (swapI i j 1)), .ref (r (swapI i j 2))].take (ord3 i j).length))) (r (swapI i j m)) = some (.tup (rowV S (swapI i j m))) := fun m hm => sl _ _ (sG _ _ (hrow _ (sw_lt hij hm)))
      exact q l _ ((s3.trans sG).trans sl) ⟨_, _, _, upd_same, rows 0 (by decide), rows 1 (by decide), rows 2 (by decide)⟩
  · refine ⟨_, rfl, rfl, false, by decide +kernel, iteF ?_⟩
    refine ⟨_, rfl, a, rfl, ⟨_, SqT.of hr0⟩, fun D hD => lc_tup (xs := [.ref (r 0), .ref (r 1), .ref (r 2)]) (fun m G => Same H3 G ∧ ∃ cs : List Addr, G D = some (.lst (cs.map V.ref)) ∧ cs.length = m ∧ ∀ (k : Nat) c, cs[k]? = some c → G c = some (.tup (rowV (exch (.c i j) S) k))) ⟨same_upd hD, [], upd_same, rfl, fun k c h => by simp at h⟩ (fun m G _ hP => SqT.of (hP.1 _ _ hr0)) (fun m x G hx hP => ?_) (fun G hP => ?_)⟩
    · obtain ⟨sG, cs, hG, lcs, hcs⟩ := hP
      obtain ⟨m3, rfl⟩ : m < 3 ∧ x = .ref (r m) := match m, hx with
        | 0, h => ⟨by decide, (Option.some.inj h).symm⟩
        | 1, h => ⟨by decide, (Option.some.inj h).symm⟩
        | 2, h => ⟨by decide, (Option.some.inj h).symm⟩
        | m + 3, h => by cases h
      refine ⟨rfl, ?_⟩
      refine ⟨_, rfl, lo, rfl, ⟨_, SqL.of (sG _ _ hlo3)⟩, fun D2 hD2 => lc_list (xs := ord3 i j) (fun n G2 => Same G G2 ∧ G2 D2 = some (.lst ((rowV (exch (.c i j) S) m).take n))) ⟨same_upd hD2, upd_same⟩ (fun n G2 _ hP => SqL.of (hP.1 _ _ (sG _ _ hlo3))) (fun n x G2 hx hP => ?_) (fun G2 hP => ?_)⟩
      · obtain ⟨s2, h2⟩ := hP
        obtain ⟨n3, rfl⟩ := ord3_at hx
        refine ⟨rfl, ?_⟩
        refine ⟨_, rfl, _, rfl, r m, _, _, _, rfl, rfl, SqT.of (s2 _ _ (sG _ _ (hrow m m3))), at3 (fun n => .int (S m n)) (sw_lt hij n3), _, h2, ?_, same_at s2 hD2, ?_⟩
        · exact Nat.lt_of_le_of_lt (List.length_take_le _ _) (by show n < sizeLine; rw [sizeLine_eq]; omega)
        · rw [upd_same]
          exact congrArg (fun z => some (HO.lst z)) (take3 (fun n => V.int (S m (swapI i j n))) n3).symm
      · obtain ⟨s2, h2⟩ := hP
        refine ⟨D2, _, rfl, .inl ⟨SqL.of h2, fun l hl => ?_⟩⟩
        have sl := same_upd (o := .tup ((rowV (exch (.c i j) S) m).take (ord3 i j).length)) hl
        have hG3 := sl _ _ (s2 _ _ hG)
        refine ⟨_, hG3, ?_, same_at (sG.trans (s2.trans sl)) hD, cs ++ [l], ?_, ?_, fun k c hk => ?_⟩
        · rw [List.length_map, sizeLine_eq]
          omega
        · rw [upd_same, List.map_append]
          rfl
        · rw [List.length_append, lcs]
          rfl
        · by_cases z : k < cs.length
          · rw [List.getElem?_append_left z] at hk
            have e := sl _ _ (s2 _ _ (hcs k c hk))
            rw [upd_ne fun z => by rw [z, hG3] at e; cases e]
            exact e
          · have kl : k < (cs ++ [l]).length := (List.getElem?_eq_some_iff.mp hk).1
            rw [List.length_append] at kl
            have ek : k = cs.length := by
              have : ([l] : List Addr).length = 1 := rfl
              omega
            rw [ek, List.getElem?_append_right (Nat.le_refl _), Nat.sub_self] at hk
            cases hk
            rw [upd_ne (fun z => by rw [z, upd_same] at hG3; cases hG3), upd_same, ek, lcs]
            rfl
    · obtain ⟨sG, cs, hG, lcs, hcs⟩ := hP
      refine ⟨D, _, rfl, .inl ⟨SqL.of hG, fun l hl => ?_⟩⟩
      have sl := same_upd (o := .tup (cs.map V.ref)) hl
      match cs, lcs, hcs, hG, hl, sl with
      | [c0, c1, c2], _, hcs, hG, hl, sl => exact q l _ ((s3.trans sG).trans sl) ⟨c0, c1, c2, upd_same, sl _ _ (hcs 0 c0 rfl), sl _ _ (hcs 1 c1 rfl), sl _ _ (hcs 2 c2 rfl)⟩
end
end TC
namespace TCX
open PySem PySem.Spec PyProof.Rows L2
section
variable {prog : Program} {w : World} {A : Around} {E : Value → Shared → Prop} {s : Shared} {t : Addr} {xs : Array (Int × Tok)}
/-- what a new tuple iterator leaves -/
theorem tup_kept {h' : Heap} (hk : ∀ b o, b ∉ [s.heap.objs.size] → (s.heap.push { cls := .type "tuple_iterator", data := .fields #[.ref t, .int 0 0] }).get? b = some o → h'.get? b = some o) :
    ∀ b o, s.heap.get? b = some o → h'.get? b = some o := fun b o e => by
  refine hk b o (fun hm => ?_) (Heap.get?_push_of_some _ e)
  have := Heap.lt_size e
  rw [List.mem_singleton.mp hm] at this
  exact Nat.lt_irrefl _ this
theorem tup_below (ht : s.heap.IsTuple t (intItems xs)) : t ≠ s.heap.objs.size ∧ ∀ b ∈ [s.heap.objs.size, t], b < (s.heap.push { cls := .type "tuple_iterator", data := .fields #[.ref t, .int 0 0] }).objs.size := by
  obtain ⟨_, e, _⟩ := ht
  have hlt := Heap.lt_size e
  refine ⟨Nat.ne_of_lt hlt, fun b hb => ?_⟩
  rw [Heap.size_push]
  rcases List.mem_cons.mp hb with z | z
  · omega
  · rw [List.mem_singleton.mp z]
    exact Nat.lt_succ_of_lt hlt
theorem sum_tup {Q : Value → Shared → Prop} (hh : A.handled = none) (ht : s.heap.IsTuple t (intItems xs))
    (h : ∀ h' tk t', (∀ b o, s.heap.get? b = some o → h'.get? b = some o) → Q (.int (preSum (numAt xs) xs.size) t') { s with heap := h', toks := tk }) :
    wpAny (model prog w) A (call (.builtin "sum") [.ref t]) Q E s := by
  obtain ⟨hne, hb⟩ := tup_below ht
  refine call_sum_walkG (wpAny_pyIter_tuple ht ?_)
  refine ⟨_, [_, t], [_], _, _, _, numAt xs, rfl, Walks.tuple (A := A.in1) hh _ t hne (intItems xs), ⟨⟨_, Heap.get?_push_size _ rfl, rfl, rfl⟩, ht.push _⟩, hb, (fun _ _ => intItems_at), fun h' tk t' hk => ?_⟩
  have := h h' tk t' (tup_kept hk)
  simpa [intItems] using this
theorem max_tup {Q : Value → Shared → Prop} (hh : A.handled = none) (ht : s.heap.IsTuple t (intItems xs)) (hp : 0 < xs.size)
    (h : ∀ v h' tk, (intItems xs)[argBest (fun i j => decide (numAt xs i > numAt xs j)) (xs.size - 1)]? = some v → (∀ b o, s.heap.get? b = some o → h'.get? b = some o) → Q v { s with heap := h', toks := tk }) :
    wpAny (model prog w) A (call (.builtin "max") [.ref t]) Q E s := by
  obtain ⟨hne, hb⟩ := tup_below ht
  refine call_max_walk (wpAny_pyIter_tuple ht ?_)
  refine ⟨_, [_, t], [_], _, _, _, _, rfl, Walks.tuple (A := A.in1) hh _ t hne (intItems xs), ⟨⟨_, Heap.get?_push_size _ rfl, rfl, rfl⟩, ht.push _⟩, hb, by simpa [intItems] using hp, CmpOf.ints_gt (numAt xs) (fun _ _ => intItems_at), fun v h' tk hP hk => ?_⟩
  exact h v h' tk (by simpa [intItems] using hP) (tup_kept hk)
end
section
variable {X : Cx}
/-- sum(t), max(t) of a tuple of whole numbers -/
def rSumT (K : PySem.W.Frag) : List V → Hp → VK → Prop := fun vs H Q => ∃ (a : Addr) (ns : List Int), vs = [V.ref a] ∧ SqT K H a (ns.map V.int) ∧ Q (.int ns.sum) H
def rMaxT (K : PySem.W.Frag) : List V → Hp → VK → Prop := fun vs H Q => ∃ (a : Addr) (ns : List Int), vs = [V.ref a] ∧ SqT K H a (ns.map V.int) ∧ 0 < ns.length ∧ ∀ m, m ∈ ns → (∀ y, y ∈ ns → y ≤ m) → Q (.int m) H
theorem cr_sumT (hc : X.calm = true) : CallR X (.builtin "sum") (rSumT X.K) := by
  intro pins s σ H vs us Q I r h
  obtain ⟨a, ns, rfl, hs, q⟩ := h
  obtain ⟨its, rv, ht, _⟩ := I.tuple hs
  rw [Vals.ref1 r]
  have hi := rv.ints
  obtain ⟨xs, e⟩ := hi.allInts.items
  have hn : numsOf (intItems xs).toList = ns := by rw [← e]; exact hi.numsOf
  rw [nums_intItems] at hn
  rw [e] at ht
  refine sum_tup (I.ok.hd hc) ht fun h' tk t' hk => ?_
  rw [preSum_eq, List.take_of_length_le (by simp), hn]
  exact ⟨.int _, H, I.kept hk, ⟨_, rfl⟩, q⟩
theorem cr_maxT (hc : X.calm = true) : CallR X (.builtin "max") (rMaxT X.K) := by
  intro pins s σ H vs us Q I r h
  obtain ⟨a, ns, rfl, hs, hne, q⟩ := h
  obtain ⟨its, rv, ht, _⟩ := I.tuple hs
  rw [Vals.ref1 r]
  have hi := rv.ints
  obtain ⟨xs, e⟩ := hi.allInts.items
  have hn : numsOf (intItems xs).toList = ns := by rw [← e]; exact hi.numsOf
  rw [nums_intItems] at hn
  subst hn
  rw [e] at ht
  have hsz : 0 < xs.size := by simpa using hne
  refine max_tup (I.ok.hd hc) ht hsz fun v h' tk hv hk => ?_
  obtain ⟨t, rfl⟩ := intItems_at hv
  obtain ⟨h1, h2⟩ := argBest_gt (numAt xs) (xs.size - 1)
  refine ⟨.int _, H, I.kept hk, ⟨_, rfl⟩, q _ ?_ fun y hy => ?_⟩
  · rw [numAt_eq]
    exact PySem.getD_mem (by rw [List.length_map, Array.length_toList]; omega)
  · obtain ⟨j, hj, rfl⟩ := mem_getD hy
    rw [List.length_map, Array.length_toList] at hj
    rw [← numAt_eq]
    exact h2 j (by omega)
end
end TCX
namespace TC
open PySem PySem.Spec PyProof.Rows L2 TCA TCX
/-! ### K17PB: square_behind, sign_along -/
section
variable {P : Program} {w : World} {K : PySem.W.Frag} {mg : Str → Option Value} {base : Heap} {f : Addr} {fd : FuncData}
def spBehind : Sp := fun vs H Q _ => ∃ (a l : Addr) (S : Nat → Nat → Int) (ss : List Stp), vs = [.ref a, .ref l] ∧ SqA H a S ∧ WayAt H l ss ∧ (∀ s ∈ ss, okS s) ∧ ss.length ≤ 20 ∧ ∀ b H', Same H H' → SqA H' b (behind ss S) → Q (.ref b) H'
abbrev nBehind : List Str := ["square", "steps", "step"]
theorem scBehind : FnScope nBehind ["square", "steps"] (defScope sBehind) := ⟨rfl, rfl, rfl, by decide +kernel, rfl, by decide +kernel, by decide +kernel⟩
set_option maxHeartbeats 0 in
theorem ok_behind {fX : Addr} {fdX : FuncData} (F : FnP K "square_behind" sBehind f fd) (GX : FnOk P w K mg base CX0 1 fX fdX ["square", "step"] spExchanged) (bX : L2.Binds K fdX ["square", "step"] []) (kX : PySem.W.keepIn K (.ref fX) = true) (gX : mg "exchanged" = some (.ref fX)) (gtuple : mg "tuple" = none) (gzip : mg "zip" = none) : FnOk P w K mg base CX0 2 f fd ["square", "steps"] spBehind := by
  refine F.ok scBehind (fun vs H Q E h => ?_) (fun cdv Ar outer s H vs Q E hr h => ?_)
  · obtain ⟨_, _, _, _, rfl, _⟩ := h
    rfl
  obtain ⟨a, l, S, ss, rfl, hS, hW, ok, l20, q⟩ := h
  have hu := hr.units
  have hr1 := hr
  refine ⟨_, PSs.nox (pss_cons (ps_for PassesOwn.never rfl (pi_list (pv 1)) (pg_name (i := 2) scBehind.nd rfl (.inl rfl))
        (pss_one (ps_if (pt_cmpR (op_eqD hu) (pv 2) (pe_tup (pa_cons pe_str pa_nil)) (nomark _)) (pss_one (ps_set (i := 0) scBehind.nd rfl (.inl rfl) (pe_tupZip3 rfl (by rfl) gtuple (by rfl) gzip (pv 0)))) (pss_one (ps_set (i := 0) scBehind.nd rfl (.inl rfl) (pe_call GX hr1 (by rfl) gX kX bX .nil pass0 (pa_cons (pv 0) (pa_cons (pv 2) pa_nil))))))))
      (pss_one (ps_ret (pv 0)))), ?_⟩
  obtain ⟨us, hl, lus, hus⟩ := hW
  refine ⟨_, rfl, l, rfl, ⟨_, SqL.of hl⟩, for_list (xs := us.map V.ref) (fun i σ G => ∃ (b : Addr) (v2 : Option V), σ = [some (.ref b), some (.ref l), v2] ∧ Same H G ∧ SqA G b (behind (ss.take i) S))
    ⟨a, none, rfl, (fun _ _ e => e), hS⟩ (fun i σ G _ hP => ?_) (fun i x σ G hx hP => ?_) (fun σ G hP => ?_)⟩
  · obtain ⟨_, _, _, sG, _⟩ := hP
    exact SqL.of (sG _ _ hl)
  rotate_left
  · obtain ⟨b, v2, rfl, sG, hb⟩ := hP
    rw [List.length_map, lus, List.take_length] at hb
    exact ⟨_, rfl, q b G sG hb⟩
  obtain ⟨b, v2, rfl, sG, hb⟩ := hP
  rw [List.getElem?_map] at hx
  obtain ⟨u, hu', rfl⟩ := Option.map_eq_some_iff.mp hx
  have il : i < us.length := (List.getElem?_eq_some_iff.mp hu').1
  obtain ⟨st, hst⟩ : ∃ st, ss[i]? = some st := ⟨_, List.getElem?_eq_getElem (by omega)⟩
  have hst' := (hus i u st hu' hst).same sG
  have oks := ok st (List.mem_of_getElem? hst)
  have tk : ss.take (i + 1) = ss.take i ++ [st] := by
    rw [List.take_add_one, hst]
    rfl
  have bk : behind (ss.take (i + 1)) S = exch st (behind (ss.take i) S) := by rw [tk, behind_snoc]
  refine ⟨_, rfl, by show 1 ≤ sizeLine; decide, fun t ht => ?_⟩
  have st1 := same_upd (o := .tup [.str "turned"]) ht
  refine ⟨_, _, (hst'.same st1).dp, .tup (SqT.of upd_same) (.cons (.str _) .nil), stp_shaped st, stp_shaped .t, !isEx st, congrArg V.bl (stp_turned st), ?_⟩
  cases e : isEx st with
  | false =>
    refine iteT ?_
    have et : st = .t := by
      cases st with
      | t => rfl
      | r _ _ => cases e
      | c _ _ => cases e
    obtain ⟨r0, r1, r2, h1, h2, h3, h4⟩ := hb.same st1
    refine ⟨_, rfl, b, r0, r1, r2, _, _, _, 3, rfl, .inl (SqT.of h1), SqT.of h2, SqT.of h3, SqT.of h4, rfl, rfl, rfl, by decide, fun ts p H' kp hp hts hpt hp' hT => ?_⟩
    have hT' : TupsAt H' ts [[.int (behind (ss.take i) S 0 0), .int (behind (ss.take i) S 1 0), .int (behind (ss.take i) S 2 0)], [.int (behind (ss.take i) S 0 1), .int (behind (ss.take i) S 1 1), .int (behind (ss.take i) S 2 1)], [.int (behind (ss.take i) S 0 2), .int (behind (ss.take i) S 1 2), .int (behind (ss.take i) S 2 2)]] := hT
    refine ⟨p, some (.ref u), rfl, (sG.trans st1).trans kp, ?_⟩
    rw [bk, et]
    cases hT' with
    | cons q0 hT1 => cases hT1 with
      | cons q1 hT2 => cases hT2 with
        | cons q2 hT3 =>
          cases hT3
          exact ⟨_, _, _, hp', q0, q1, q2⟩
  | true =>
    refine iteF ?_
    refine ⟨_, rfl, _, rfl, b, u, _, st, rfl, hb.same st1, hst'.same st1, oks, e, fun b' H' s' hb' => ⟨b', _, rfl, (sG.trans st1).trans s', ?_⟩⟩
    rw [bk]
    exact hb'
def spSign : Sp := fun vs H Q _ => ∃ (a l : Addr) (S : Nat → Nat → Int) (ss : List Stp), vs = [.ref a, .ref l] ∧ SqA H a S ∧ WayAt H l ss ∧ ss.length ≤ 20 ∧ ∀ H', Same H H' → Q (.int (mk17 (S 0 0 + S 0 1 + S 0 2) (cntX ss))) H'
abbrev nSignAlong : List Str := ["square", "steps", "exchanges", "step"]
theorem scSignAlong : FnScope nSignAlong ["square", "steps"] (defScope sSignAlong) := ⟨rfl, rfl, rfl, by decide +kernel, rfl, by decide +kernel, by decide +kernel⟩
set_option maxHeartbeats 0 in
theorem ok_signAlong {fO : Addr} {fdO : FuncData} (F : FnP K "sign_along" sSignAlong f fd) (GO : FnOk P w K mg base CX0 1 fO fdO ["number"] spOdd) (bO : L2.Binds K fdO ["number"] []) (kO : PySem.W.keepIn K (.ref fO) = true) (gO : mg "is_odd" = some (.ref fO)) (gsum : mg "sum" = none) (glen : mg "len" = none) : FnOk P w K mg base CX0 2 f fd ["square", "steps"] spSign := by
  refine F.ok scSignAlong (fun vs H Q E h => ?_) (fun cdv Ar outer s H vs Q E hr h => ?_)
  · obtain ⟨_, _, _, _, rfl, _⟩ := h
    rfl
  obtain ⟨a, l, S, ss, rfl, hS, hW, l20, q⟩ := h
  have hu := hr.units
  have hr1 := hr
  refine ⟨_, PSs.nox (C8.pss_cut (ps_setLc (i := 2) (own := [("step", 3)]) (g := gName 3) (tt := (tTest (tOp (rNeD K) (tVar 3) (tTup (tCons (tC (.str "turned")) tNil))))) (te := (tVar 3)) (by rfl) scSignAlong.nd rfl rfl (sw_true rfl rfl rfl (by decide +kernel)) (pi_list (pv 1))
          (blkOk_by (N := nSignAlong) (sc := defScope sSignAlong) (by decide +kernel)) (fun _ _ _ _ _ => pg_name (i := 3) scSignAlong.nd rfl (.inl rfl)) (fun _ _ _ _ _ => pts_one (pt_cmpR (op_neD hu) (pv 3) (pe_tup (pa_cons pe_str pa_nil)) (nomark _))) (fun _ _ _ _ _ => (pv 3)))
      (pss_one (ps_ret (pe_ifExp (pt_val (pe_call GO hr1 (by rfl) gO kO bO .nil pass0 (pa_cons (pe_op op_mul (pe_callB (cr_sumT rfl) (by rfl) gsum (by decide +kernel) (pa_cons (pe_ix ix_tup (pv 0) pe_int (fun _ _ => rfl)) pa_nil)) (pe_callB call_len_seq (by rfl) glen PySem.boot_len (pa_cons (pv 2) pa_nil))) pa_nil))) (pe_un un_neg pe_int) pe_int)))), ?_⟩
  obtain ⟨us, hl, lus, hus⟩ := hW
  refine ⟨fun σ G => ∃ (D : Addr) (vs : List V), σ = [some (.ref a), some (.ref l), some (.ref D), none] ∧ Same H G ∧ G D = some (.lst vs) ∧ vs.length = cntX ss, ?_, fun σ G hh => ?_⟩
  · refine ⟨_, rfl, l, rfl, ⟨_, SqL.of hl⟩, fun D hD => lc_list (xs := us.map V.ref) (fun i G => Same H G ∧ ∃ vs : List V, G D = some (.lst vs) ∧ vs.length = cntX (ss.take i)) ⟨same_upd hD, [], upd_same, rfl⟩ (fun i G _ hP => SqL.of (hP.1 _ _ hl)) (fun i x G hx hP => ?_) (fun G hP => ?_)⟩
    · obtain ⟨sG, vs, hG, lvs⟩ := hP
      rw [List.getElem?_map] at hx
      obtain ⟨u, hu', rfl⟩ := Option.map_eq_some_iff.mp hx
      have il : i < us.length := (List.getElem?_eq_some_iff.mp hu').1
      obtain ⟨st, hst⟩ : ∃ st, ss[i]? = some st := ⟨_, List.getElem?_eq_getElem (by omega)⟩
      have hst' := (hus i u st hu' hst).same sG
      have tk : ss.take (i + 1) = ss.take i ++ [st] := by
        rw [List.take_add_one, hst]
        rfl
      refine ⟨rfl, _, rfl, by show 1 ≤ sizeLine; decide, fun t ht => ?_⟩
      have st1 := same_upd (o := .tup [.str "turned"]) ht
      refine ⟨_, _, (hst'.same st1).dp, .tup (SqT.of upd_same) (.cons (.str _) .nil), stp_shaped st, stp_shaped .t, isEx st, by rw [stp_turned st, Bool.not_not], ?_⟩
      cases e : isEx st with
      | false =>
        refine iteF ⟨sG.trans st1, vs, st1 _ _ hG, ?_⟩
        rw [lvs, tk]
        unfold cntX
        rw [List.filter_append, List.filter_cons_of_neg (by rw [e]; exact Bool.false_ne_true), List.filter_nil, List.append_nil]
      | true =>
        refine iteT ⟨_, rfl, _, st1 _ _ hG, ?_, same_at (sG.trans st1) hD, vs ++ [.ref u], ?_, ?_⟩
        · rw [lvs]
          unfold cntX
          refine Nat.lt_of_le_of_lt (Nat.le_trans (List.length_filter_le _ _) (List.length_take_le' _ _)) ?_
          exact Nat.lt_of_le_of_lt l20 (by decide)
        · rw [upd_same]
        · rw [List.length_append, lvs, tk]
          unfold cntX
          rw [List.filter_append, List.filter_cons_of_pos e, List.filter_nil, List.length_append]
          rfl
    · obtain ⟨sG, vs, hG, lvs⟩ := hP
      rw [List.length_map, lus, List.take_length] at lvs
      exact ⟨D, vs, rfl, sG, hG, lvs⟩
  obtain ⟨D, vs, rfl, sG, hG, lvs⟩ := hh
  obtain ⟨r0, r1, r2, h1, h2, h3, h4⟩ := hS.same sG
  refine ⟨_, rfl, a, _, 0, _, rfl, rfl, SqT.of h1, atI_nat (j := 0) rfl, ?_⟩
  refine ⟨r0, [S 0 0, S 0 1, S 0 2], rfl, SqT.of h2, ?_⟩
  refine ⟨_, rfl, D, vs, rfl, .inl (SqL.of hG), ?_⟩
  have es : ([S 0 0, S 0 1, S 0 2] : List Int).sum = S 0 0 + S 0 1 + S 0 2 := by
    show S 0 0 + (S 0 1 + (S 0 2 + 0)) = _
    omega
  have c20 : cntX ss ≤ 20 := Nat.le_trans (List.length_filter_le _ _) l20
  rw [es, lvs]
  refine ⟨_, _, rfl, rfl, .inr ⟨by omega, by omega⟩, _, rfl, _, rfl, ?_⟩
  have qq := q G sG
  unfold mk17 at qq
  by_cases z : (S 0 0 + S 0 1 + S 0 2) * (cntX ss : Int) % 2 = 1
  · rw [if_pos z] at qq
    exact iteD1 z ⟨_, rfl, qq⟩
  · rw [if_neg z] at qq
    exact iteD0 z qq
end
end TC
namespace TC
open PySem PySem.Spec PyProof.Rows L2 TCA TCX
/-! ### K17PC: all_ways -/
abbrev oA (K : PySem.W.Frag) (i : Nat) : Addr := itA K (He.ga K "ORDERS") i
abbrev pA (K : PySem.W.Frag) (i j : Nat) : Addr := itA K (oA K i) j
structure OrdK (K : PySem.W.Frag) : Prop where
  top : ∀ H, SqT K H (He.ga K "ORDERS") ((List.range 6).map fun i => V.ref (oA K i))
  row : ∀ (i : Nat) o, ordL[i]? = some o → ∀ H, SqT K H (oA K i) ((List.range o.length).map fun j => V.ref (pA K i j))
  pair : ∀ (i : Nat) o, ordL[i]? = some o → ∀ (j : Nat) p, o[j]? = some p → ∀ H, SqT K H (pA K i j) [.int (p.1 : Int), .int (p.2 : Int)]
theorem ordK_ok {K : PySem.W.Frag} (h : ordersB K = true) : OrdK K := by
  unfold ordersB at h
  obtain ⟨h0, h⟩ := He.ba h
  obtain ⟨a0, h⟩ := He.ba h
  obtain ⟨a1, h⟩ := He.ba h
  obtain ⟨b1, h⟩ := He.ba h
  obtain ⟨a2, h⟩ := He.ba h
  obtain ⟨b2, h⟩ := He.ba h
  obtain ⟨a3, h⟩ := He.ba h
  obtain ⟨b3, h⟩ := He.ba h
  obtain ⟨a4, h⟩ := He.ba h
  obtain ⟨b4, h⟩ := He.ba h
  obtain ⟨c4, h⟩ := He.ba h
  obtain ⟨a5, h⟩ := He.ba h
  obtain ⟨b5, c5⟩ := He.ba h
  refine ⟨fun H => sqB_ok h0 H, fun i o ho H => ?_, fun i o ho j p hp H => ?_⟩
  · match i, ho with
    | 0, ho => cases ho; exact sqB_ok a0 H
    | 1, ho => cases ho; exact sqB_ok a1 H
    | 2, ho => cases ho; exact sqB_ok a2 H
    | 3, ho => cases ho; exact sqB_ok a3 H
    | 4, ho => cases ho; exact sqB_ok a4 H
    | 5, ho => cases ho; exact sqB_ok a5 H
    | i + 6, ho => cases ho
  · match i, ho with
    | 0, ho => cases ho; cases hp
    | 1, ho =>
      cases ho
      match j, hp with
      | 0, hp => cases hp; exact sqB_ok b1 H
      | j + 1, hp => cases hp
    | 2, ho =>
      cases ho
      match j, hp with
      | 0, hp => cases hp; exact sqB_ok b2 H
      | j + 1, hp => cases hp
    | 3, ho =>
      cases ho
      match j, hp with
      | 0, hp => cases hp; exact sqB_ok b3 H
      | j + 1, hp => cases hp
    | 4, ho =>
      cases ho
      match j, hp with
      | 0, hp => cases hp; exact sqB_ok b4 H
      | 1, hp => cases hp; exact sqB_ok c4 H
      | j + 2, hp => cases hp
    | 5, ho =>
      cases ho
      match j, hp with
      | 0, hp => cases hp; exact sqB_ok b5 H
      | 1, hp => cases hp; exact sqB_ok c5 H
      | j + 2, hp => cases hp
    | i + 6, ho => cases ho
/-- steps at addresses -/
def StepsAt (H : Hp) (us : List Addr) (ss : List Stp) : Prop := us.length = ss.length ∧ ∀ (i : Nat) u s, us[i]? = some u → ss[i]? = some s → StpAt H u s
theorem StepsAt.same {H H' : Hp} {us : List Addr} {ss : List Stp} (h : StepsAt H us ss) (s : Same H H') : StepsAt H' us ss := ⟨h.1, fun i u st e1 e2 => (h.2 i u st e1 e2).same s⟩
theorem StepsAt.nil (H : Hp) : StepsAt H [] [] := ⟨rfl, fun i u s h => by simp at h⟩
theorem StepsAt.append {H : Hp} {us vs : List Addr} {ss ts : List Stp} (h : StepsAt H us ss) (h' : StepsAt H vs ts) : StepsAt H (us ++ vs) (ss ++ ts) := by
  refine ⟨by rw [List.length_append, List.length_append, h.1, h'.1], fun i u s e1 e2 => ?_⟩
  have l := h.1
  by_cases z : i < us.length
  · rw [List.getElem?_append_left z] at e1
    rw [List.getElem?_append_left (by omega)] at e2
    exact h.2 i u s e1 e2
  · rw [List.getElem?_append_right (by omega)] at e1
    rw [List.getElem?_append_right (by omega), ← l] at e2
    exact h'.2 _ u s e1 e2
theorem StepsAt.one {H : Hp} {u : Addr} {s : Stp} (h : StpAt H u s) : StepsAt H [u] [s] := ⟨rfl, fun i u' s' e1 e2 => by
  match i, e1, e2 with
  | 0, e1, e2 =>
    cases e1
    cases e2
    exact h⟩
theorem StpAt.updL {H : Hp} {u l : Addr} {s : Stp} {xs : List V} {o : HO} (h : StpAt H u s) (hl : H l = some (.lst xs)) : StpAt (upd H l o) u s := by
  cases s <;> exact (by
    have h' := h
    unfold StpAt at h' ⊢
    rw [upd_ne fun e => by rw [e, hl] at h'; cases h']
    exact h')
theorem StepsAt.updL {H : Hp} {us : List Addr} {l : Addr} {ss : List Stp} {xs : List V} {o : HO} (h : StepsAt H us ss) (hl : H l = some (.lst xs)) : StepsAt (upd H l o) us ss := ⟨h.1, fun i u s e1 e2 => (h.2 i u s e1 e2).updL hl⟩
/-- ways at addresses, none of them wl -/
structure WaysAt (H : Hp) (wl : Addr) (us : List Addr) (ws : List (List Stp)) : Prop where
  len : us.length = ws.length
  at_ : ∀ (i : Nat) u ss, us[i]? = some u → ws[i]? = some ss → u ≠ wl ∧ ∃ vs : List Addr, H u = some (.lst (vs.map V.ref)) ∧ StepsAt H vs ss
theorem WaysAt.same {H H' : Hp} {wl : Addr} {us : List Addr} {ws : List (List Stp)} (h : WaysAt H wl us ws) (s : Same H H') : WaysAt H' wl us ws := ⟨h.len, fun i u ss e1 e2 => by
  obtain ⟨h1, vs, h2, h3⟩ := h.at_ i u ss e1 e2
  exact ⟨h1, vs, s _ _ h2, h3.same s⟩⟩
theorem WaysAt.snoc {H : Hp} {wl u : Addr} {us vs : List Addr} {ws : List (List Stp)} {ss : List Stp} {xs : List V} {o : HO} (h : WaysAt H wl us ws) (hw : H wl = some (.lst xs)) (ne : u ≠ wl) (hu : H u = some (.lst (vs.map V.ref))) (hs : StepsAt H vs ss) : WaysAt (upd H wl o) wl (us ++ [u]) (ws ++ [ss]) := by
  refine ⟨by rw [List.length_append, List.length_append, h.len]; rfl, fun i u' s' e1 e2 => ?_⟩
  have l := h.len
  by_cases z : i < us.length
  · rw [List.getElem?_append_left z] at e1
    rw [List.getElem?_append_left (by omega)] at e2
    obtain ⟨h1, vs', h2, h3⟩ := h.at_ i u' s' e1 e2
    exact ⟨h1, vs', by rw [upd_ne h1]; exact h2, h3.updL hw⟩
  · rw [List.getElem?_append_right (by omega)] at e1
    rw [List.getElem?_append_right (by omega), ← l] at e2
    match i - us.length, e1, e2 with
    | 0, e1, e2 =>
      cases e1
      cases e2
      exact ⟨ne, vs, by rw [upd_ne ne]; exact hu, hs.updL hw⟩
theorem WaysAt.way {H : Hp} {wl : Addr} {us : List Addr} {ws : List (List Stp)} (h : WaysAt H wl us ws) {i : Nat} {u : Addr} {ss : List Stp} (e1 : us[i]? = some u) (e2 : ws[i]? = some ss) : WayAt H u ss := by
  obtain ⟨_, vs, h2, h3⟩ := h.at_ i u ss e1 e2
  exact ⟨vs, h2, h3.1, h3.2⟩
theorem perm_map_ex {α β : Type} {f : α → β} : ∀ {l : List β} {z : List α}, l.Perm (z.map f) → ∃ z' : List α, z'.Perm z ∧ z'.map f = l
  | [], z, h => by
    have e := h.symm.eq_nil
    exact ⟨[], by rw [List.map_eq_nil_iff.mp e], rfl⟩
  | b :: l, z, h => by
    obtain ⟨a, ha, e⟩ := List.mem_map.mp (h.mem_iff.mp List.mem_cons_self)
    obtain ⟨s, t, rfl⟩ := List.append_of_mem ha
    have h2 : (b :: l).Perm (b :: (s ++ t).map f) := by
      refine h.trans ?_
      rw [List.map_append, List.map_cons, e, List.map_append]
      exact List.perm_middle
    obtain ⟨z', p1, p2⟩ := perm_map_ex (List.perm_cons b |>.mp h2)
    exact ⟨a :: z', (List.Perm.cons a p1).trans List.perm_middle.symm, by rw [List.map_cons, e, p2]⟩
def wayL (tu : List Stp) (o o' : List (Nat × Nat)) : List Stp := rowsS o ++ colsS o' ++ tu
def wayR (tu : List Stp) (o : List (Nat × Nat)) : List (List Stp) := ordL.map (wayL tu o)
def wayT (tu : List Stp) : List (List Stp) := ordL.flatMap (wayR tu)
theorem ways_eq : waysL = turnsL.flatMap wayT := rfl
theorem ord_len : ∀ o ∈ ordL, o.length ≤ 2 := by decide
section
variable {P : Program} {w : World} {K : PySem.W.Frag} {mg : Str → Option Value} {base : Heap} {f : Addr} {fd : FuncData}
def spAllWays : Sp := fun vs H Q _ => vs = [] ∧ ∀ (l : Addr) (us : List Addr) (ws : List (List Stp)) (H' : Hp), Same H H' → H' l = some (.lst (us.map V.ref)) → us.length = ws.length → ws.Perm waysL → (∀ (i : Nat) u ss, us[i]? = some u → ws[i]? = some ss → WayAt H' u ss) → Q (.ref l) H'
abbrev nAllWays : List Str := ["ways", "turns", "rows", "columns", "exchanges", "i", "j"]
theorem scAllWays : FnScope nAllWays [] (defScope sAllWays) := ⟨rfl, rfl, rfl, by decide +kernel, rfl, by decide +kernel, by decide +kernel⟩
set_option maxHeartbeats 0 in
theorem ok_allWays (F : FnP K "all_ways" sAllWays f fd) (O : OrdK K) (gORDERS : mg "ORDERS" = some (.ref (He.ga K "ORDERS"))) (gsorted : mg "sorted" = none) (glen : mg "len" = none) : FnOk P w K mg base CX0 1 f fd [] spAllWays := by
  refine F.ok scAllWays (fun vs H Q E h => ?_) (fun cdv Ar outer s H vs Q E hr h => ?_)
  · obtain ⟨rfl, _⟩ := h
    rfl
  obtain ⟨rfl, q⟩ := h
  have hu := hr.units
  refine ⟨_, PSs.nox (C8.pss_cut (ps_set (i := 0) scAllWays.nd rfl (.inl rfl) (pe_lst pa_nil))
      (C8.pss_cut (ps_for PassesOwn.never rfl (pi_tup (pe_tup (pa_cons (pe_lst pa_nil) (pa_cons (pe_lst (pa_cons (pe_tup (pa_cons pe_str pa_nil)) pa_nil)) pa_nil)))) (pg_name (i := 1) scAllWays.nd rfl (.inl rfl))
        (pss_one (ps_for PassesOwn.never rfl (pi_tup (pe_glob (v := .ref (He.ga K "ORDERS")) (by rfl) gORDERS rfl)) (pg_name (i := 2) scAllWays.nd rfl (.inl rfl))
        (pss_one (ps_for PassesOwn.never rfl (pi_tup (pe_glob (v := .ref (He.ga K "ORDERS")) (by rfl) gORDERS rfl)) (pg_name (i := 3) scAllWays.nd rfl (.inl rfl))
        (C8.pss_cut (ps_set (i := 4) scAllWays.nd rfl (.inl rfl) (pe_op op_cat (pe_lc (own := [("i", 5), ("j", 6)]) (g := gTup K 2 (gCons (gName 5) (gCons (gName 6) gNil))) (tt := tYes) (te := (tTup (tCons (tC (.str "rows")) (tCons (tVar 5) (tCons (tVar 6) tNil))))) (by rfl) scAllWays.nd (pi_tup (pv 2))
          (blkOk_by (N := nAllWays) (sc := defScope sAllWays) (by decide +kernel)) (fun _ _ _ _ _ => pg_tup rfl (pgs_cons (pg_name (i := 5) scAllWays.nd rfl (.inl rfl)) (pgs_cons (pg_name (i := 6) scAllWays.nd rfl (.inl rfl)) pgs_nil))) (fun _ _ _ _ _ => pts_nil) (fun _ _ _ _ _ => (pe_tup (pa_cons pe_str (pa_cons (pv 5) (pa_cons (pv 6) pa_nil)))))) (pe_lc (own := [("i", 5), ("j", 6)]) (g := gTup K 2 (gCons (gName 5) (gCons (gName 6) gNil))) (tt := tYes) (te := (tTup (tCons (tC (.str "columns")) (tCons (tVar 5) (tCons (tVar 6) tNil))))) (by rfl) scAllWays.nd (pi_tup (pv 3))
          (blkOk_by (N := nAllWays) (sc := defScope sAllWays) (by decide +kernel)) (fun _ _ _ _ _ => pg_tup rfl (pgs_cons (pg_name (i := 5) scAllWays.nd rfl (.inl rfl)) (pgs_cons (pg_name (i := 6) scAllWays.nd rfl (.inl rfl)) pgs_nil))) (fun _ _ _ _ _ => pts_nil) (fun _ _ _ _ _ => (pe_tup (pa_cons pe_str (pa_cons (pv 5) (pa_cons (pv 6) pa_nil))))))))
      (pss_one (ps_expr (pe_bm PySem.F.plainAttrs_list PySem.F.slot_list_append PySem.F.type_list_append mt_append (pv 0) (pa_cons (pe_op op_cat (pv 4) (pv 1)) pa_nil))))))))))
      (pss_one (ps_ret (pe_sortedLen (by rfl) gsorted (by rfl) glen hu (pa_cons (pv 0) pa_nil)))))), ?_⟩
  refine ⟨fun σ G => ∃ wl : Addr, σ = [some (.ref wl), none, none, none, none, none, none] ∧ H wl = none ∧ G = upd H wl (.lst []), ⟨by show 0 ≤ sizeLine; decide, fun wl hwl => ⟨wl, rfl, hwl, rfl⟩⟩, fun σ G hh => ?_⟩
  obtain ⟨wl, rfl, hwl, rfl⟩ := hh
  refine ⟨fun σ G => ∃ (us : List Addr) (v1 v2 v3 v4 v5 v6 : Option V), σ = [some (.ref wl), v1, v2, v3, v4, v5, v6] ∧ Same H G ∧ G wl = some (.lst (us.map V.ref)) ∧ WaysAt G wl us waysL, ?_, fun σ G hh => ?_⟩
  rotate_left
  · obtain ⟨us, v1, v2, v3, v4, v5, v6, rfl, sG, hG, hW⟩ := hh
    refine ⟨_, rfl, wl, us, rfl, hG, fun u hu => ?_, fun us' p pm hp => ?_⟩
    · obtain ⟨i, hi⟩ := List.getElem?_of_mem hu
      have il := (List.getElem?_eq_some_iff.mp hi).1
      have l := hW.len
      obtain ⟨ss, hs⟩ : ∃ ss, waysL[i]? = some ss := ⟨_, List.getElem?_eq_getElem (by omega)⟩
      obtain ⟨_, vs, h2, _⟩ := hW.at_ i u ss hi hs
      exact ⟨_, h2⟩
    · have sp := same_upd (o := .lst (us'.map V.ref)) hp
      have e1 : us = (us.zip waysL).map Prod.fst := by rw [List.map_fst_zip (Nat.le_of_eq hW.len)]
      rw [e1] at pm
      obtain ⟨z, pz, ez⟩ := perm_map_ex pm
      refine q p us' (z.map Prod.snd) _ (sG.trans sp) upd_same (by rw [← ez, List.length_map, List.length_map]) ?_ fun i u ss h1 h2 => ?_
      · have := pz.map Prod.snd
        rw [List.map_snd_zip (Nat.le_of_eq hW.len.symm)] at this
        exact this
      · rw [← ez, List.getElem?_map] at h1
        rw [List.getElem?_map] at h2
        obtain ⟨y, hy, rfl⟩ := Option.map_eq_some_iff.mp h1
        rw [hy] at h2
        cases h2
        obtain ⟨k, hk⟩ := List.getElem?_of_mem (pz.mem_iff.mp (List.mem_of_getElem? hy))
        obtain ⟨g1, g2⟩ := List.getElem?_zip_eq_some.mp hk
        exact ((hW.same sp).way g1 g2)
  refine ⟨by show 0 ≤ sizeLine; decide, fun l0 hl0 => ⟨by show 1 ≤ sizeLine; decide, fun t ht => ⟨by show 1 ≤ sizeLine; decide, fun l1 hl1 => ⟨by show 2 ≤ sizeLine; decide, fun tt htt => ?_⟩⟩⟩⟩
  have z1 := same_upd (o := .lst []) hl0
  have z2 := same_upd (o := .tup [.str "turned"]) ht
  have z3 := same_upd (o := .lst [.ref t]) hl1
  have z4 := same_upd (o := .tup [.ref l0, .ref l1]) htt
  have z24 := (z2.trans z3).trans z4
  have hwl0 := upd_same (H := H) (a := wl) (o := .lst [])
  have hw1 := (z1.trans z24) _ _ hwl0
  have n0 : l0 ≠ wl := fun e => by rw [e, hwl0] at hl0; cases hl0
  have n1 : l1 ≠ wl := fun e => by rw [e, z2 _ _ (z1 _ _ hwl0)] at hl1; cases hl1
  have a0 := z24 _ _ (upd_same (H := upd H wl (.lst [])) (a := l0) (o := .lst []))
  have at_ := z4 _ _ (z3 _ _ (upd_same (H := upd (upd H wl (.lst [])) l0 (.lst [])) (a := t) (o := .tup [.str "turned"])))
  have a1 := z4 _ _ (upd_same (H := upd (upd (upd H wl (.lst [])) l0 (.lst [])) t (.tup [.str "turned"])) (a := l1) (o := .lst [.ref t]))
  have hH0 : ∀ b o, H b = some o → b ≠ wl ∧ (upd (upd (upd (upd (upd H wl (.lst [])) l0 (.lst [])) t (.tup [.str "turned"])) l1 (.lst [.ref t])) tt (.tup [.ref l0, .ref l1])) b = some o := fun b o e => ⟨(fun z => by rw [z, hwl] at e; cases e), z24 _ _ (z1 _ _ (same_upd hwl _ _ e))⟩
  have htt1 := upd_same (H := upd (upd (upd (upd H wl (.lst [])) l0 (.lst [])) t (.tup [.str "turned"])) l1 (.lst [.ref t])) (a := tt) (o := .tup [.ref l0, .ref l1])
  generalize upd (upd (upd (upd (upd H wl (.lst [])) l0 (.lst [])) t (.tup [.str "turned"])) l1 (.lst [.ref t])) tt (.tup [.ref l0, .ref l1]) = G0 at hw1 a0 at_ a1 hH0 htt1 ⊢
  have tuA : ∀ (k : Nat) x tu, ([V.ref l0, .ref l1] : List V)[k]? = some x → turnsL[k]? = some tu → ∃ (lt : Addr) (vs : List Addr), x = .ref lt ∧ lt ≠ wl ∧ G0 lt = some (.lst (vs.map V.ref)) ∧ StepsAt G0 vs tu ∧ tu.length ≤ 1 := fun k x tu h1 h2 => match k, h1, h2 with
    | 0, h1, h2 => ⟨l0, [], (Option.some.inj h1).symm, n0, a0, by cases h2; exact StepsAt.nil _, by cases h2; decide⟩
    | 1, h1, h2 => ⟨l1, [t], (Option.some.inj h1).symm, n1, a1, by cases h2; exact StepsAt.one at_, by cases h2; decide⟩
    | k + 2, h1, h2 => by cases h1
  have ntt : tt ≠ wl := fun e => by rw [e, hw1] at htt1; cases htt1
  refine ⟨tt, rfl, ⟨_, SqT.of htt1⟩, for_tup (xs := [V.ref l0, .ref l1]) (fun k σ G => ∃ (us : List Addr) (v1 v2 v3 v4 v5 v6 : Option V), σ = [some (.ref wl), v1, v2, v3, v4, v5, v6] ∧ SameBut wl G0 G ∧ G wl = some (.lst (us.map V.ref)) ∧ WaysAt G wl us ((turnsL.take k).flatMap wayT))
    ⟨[], none, none, none, none, none, none, rfl, (fun _ _ _ e => e), hw1, ⟨rfl, fun i u ss h => by simp at h⟩⟩ (fun k σ G _ hP => ?_) (fun k x σ G hx hP => ?_) (fun σ G hP => ?_)⟩
  · obtain ⟨_, _, _, _, _, _, _, _, sb, _⟩ := hP
    exact SqT.of (sb _ _ ntt htt1)
  rotate_left
  · obtain ⟨us, v1, v2, v3, v4, v5, v6, rfl, sb, hG, hW⟩ := hP
    exact ⟨us, v1, v2, v3, v4, v5, v6, rfl, fun b o e => sb _ _ (hH0 b o e).1 (hH0 b o e).2, hG, hW⟩
  obtain ⟨us, v1, v2, v3, v4, v5, v6, rfl, sb, hG, hW⟩ := hP
  have k2 : k < 2 := (List.getElem?_eq_some_iff.mp hx).1
  obtain ⟨tu, htu⟩ : ∃ tu, turnsL[k]? = some tu := ⟨_, List.getElem?_eq_getElem k2⟩
  obtain ⟨lt, tv, rfl, nlt, hlt, htv, tu1⟩ := tuA k x tu hx htu
  have tkT : (turnsL.take (k + 1)).flatMap wayT = (turnsL.take k).flatMap wayT ++ wayT tu := by
    rw [List.take_add_one, htu, List.flatMap_append]
    show _ ++ (wayT tu ++ []) = _
    rw [List.append_nil]
  obtain ⟨WA, eWA⟩ : ∃ WA, (turnsL.take k).flatMap wayT = WA := ⟨_, rfl⟩
  rw [eWA] at hW tkT
  have rl : ∀ {i : Nat} {x : V}, ((List.range 6).map fun i => V.ref (oA K i))[i]? = some x → i < 6 ∧ x = .ref (oA K i) := fun {i x} h => by
    rw [List.getElem?_map] at h
    obtain ⟨j, hj, rfl⟩ := Option.map_eq_some_iff.mp h
    obtain ⟨h1, h2⟩ := List.getElem?_eq_some_iff.mp hj
    rw [List.getElem_range] at h2
    rw [List.length_range] at h1
    exact ⟨h1, by rw [h2]⟩
  refine ⟨He.ga K "ORDERS", rfl, ⟨_, O.top _⟩, for_tup (K := K) (a := He.ga K "ORDERS") (xs := (List.range 6).map fun i => V.ref (oA K i)) (fun b σ G => ∃ (us : List Addr) (v2 v3 v4 v5 v6 : Option V), σ = [some (.ref wl), some (.ref lt), v2, v3, v4, v5, v6] ∧ SameBut wl G0 G ∧ G wl = some (.lst (us.map V.ref)) ∧ WaysAt G wl us (WA ++ (ordL.take b).flatMap (wayR tu)))
    ⟨us, v2, v3, v4, v5, v6, rfl, sb, hG, by
      show WaysAt G wl us (WA ++ [])
      rw [List.append_nil]
      exact hW⟩ (fun b σ G _ hP => O.top _) (fun b x σ G hx hP => ?_) (fun σ G hP => ?_)⟩
  rotate_left
  · obtain ⟨us, v2, v3, v4, v5, v6, rfl, sb, hG, hW⟩ := hP
    refine ⟨us, _, v2, v3, v4, v5, v6, rfl, sb, hG, ?_⟩
    rw [tkT]
    exact hW
  obtain ⟨us, v2, v3, v4, v5, v6, rfl, sb, hG, hW⟩ := hP
  obtain ⟨b6, rfl⟩ := rl hx
  obtain ⟨o, ho⟩ : ∃ o, ordL[b]? = some o := ⟨_, List.getElem?_eq_getElem b6⟩
  have tkB : (ordL.take (b + 1)).flatMap (wayR tu) = (ordL.take b).flatMap (wayR tu) ++ wayR tu o := by
    rw [List.take_add_one, ho, List.flatMap_append]
    show _ ++ (wayR tu o ++ []) = _
    rw [List.append_nil]
  obtain ⟨WB, eWB⟩ : ∃ WB, WA ++ (ordL.take b).flatMap (wayR tu) = WB := ⟨_, rfl⟩
  rw [tkB, ← List.append_assoc, eWB]
  rw [eWB] at hW
  have lWB : WB.length ≤ 72 := by
    have h1 : WA.length ≤ 36 := by
      rw [← eWA]
      have : ∀ k ∈ List.range 2, ((turnsL.take k).flatMap wayT).length ≤ 36 := by decide
      exact this k (List.mem_range.mpr k2)
    have h2 : ((ordL.take b).flatMap (wayR tu)).length = 6 * b := by
      rw [List.length_flatMap]
      have e : (ordL.take b).map (fun o => (wayR tu o).length) = (ordL.take b).map fun _ => 6 := List.map_congr_left fun o _ => rfl
      rw [e, List.map_const']
      have l : (ordL.take b).length = b := by
        rw [List.length_take]
        show min b 6 = b
        omega
      rw [l, List.sum_replicate_nat]
      omega
    rw [← eWB, List.length_append, h2]
    omega
  refine ⟨He.ga K "ORDERS", rfl, ⟨_, O.top _⟩, for_tup (K := K) (a := He.ga K "ORDERS") (xs := (List.range 6).map fun i => V.ref (oA K i)) (fun c σ G => ∃ (us : List Addr) (v3 v4 v5 v6 : Option V), σ = [some (.ref wl), some (.ref lt), some (.ref (oA K b)), v3, v4, v5, v6] ∧ SameBut wl G0 G ∧ G wl = some (.lst (us.map V.ref)) ∧ WaysAt G wl us (WB ++ (ordL.take c).map (wayL tu o)))
    ⟨us, v3, v4, v5, v6, rfl, sb, hG, by
      show WaysAt _ wl us (WB ++ [])
      rw [List.append_nil]
      exact hW⟩ (fun c σ G _ hP => O.top _) (fun c x σ G hx hP => ?_) (fun σ G hP => ?_)⟩
  rotate_left
  · obtain ⟨us, v3, v4, v5, v6, rfl, sb, hG, hW⟩ := hP
    exact ⟨us, _, v3, v4, v5, v6, rfl, sb, hG, hW⟩
  clear hW hG sb v3 v4 v5 v6 us
  obtain ⟨us, v3, v4, v5, v6, rfl, sb, hG, hW⟩ := hP
  obtain ⟨c6, rfl⟩ := rl hx
  obtain ⟨o', ho'⟩ : ∃ o, ordL[c]? = some o := ⟨_, List.getElem?_eq_getElem c6⟩
  have tkC : (ordL.take (c + 1)).map (wayL tu o) = (ordL.take c).map (wayL tu o) ++ [wayL tu o o'] := by
    rw [List.take_add_one, ho', List.map_append]
    rfl
  have o2 := ord_len o (List.mem_of_getElem? ho)
  have o2' := ord_len o' (List.mem_of_getElem? ho')
  have pl : ∀ {b : Nat} {o : List (Nat × Nat)} {m : Nat} {x : V}, ((List.range o.length).map fun j => V.ref (pA K b j))[m]? = some x → x = .ref (pA K b m) ∧ ∃ p, o[m]? = some p := fun {b o m x} h => by
    rw [List.getElem?_map] at h
    obtain ⟨j, hj, rfl⟩ := Option.map_eq_some_iff.mp h
    obtain ⟨h1, h2⟩ := List.getElem?_eq_some_iff.mp hj
    rw [List.getElem_range] at h2
    rw [List.length_range] at h1
    exact ⟨by rw [h2], _, List.getElem?_eq_getElem h1⟩
  refine ⟨fun σ G1 => ∃ (D3 : Addr) (vs : List Addr), σ = [some (.ref wl), some (.ref lt), some (.ref (oA K b)), some (.ref (oA K c)), some (.ref D3), v5, v6] ∧ Same G G1 ∧ G D3 = none ∧ G1 D3 = some (.lst (vs.map V.ref)) ∧ StepsAt G1 vs (rowsS o ++ colsS o'), ?_, fun σ G1 hh => ?_⟩
  · refine ⟨_, rfl, oA K b, rfl, ⟨_, O.row b o ho _⟩, fun D1 hD1 => lc_tup (xs := (List.range o.length).map fun j => V.ref (pA K b j)) (fun m Gx => Same G Gx ∧ ∃ vs : List Addr, Gx D1 = some (.lst (vs.map V.ref)) ∧ StepsAt Gx vs (rowsS (o.take m))) ⟨same_upd hD1, [], upd_same, StepsAt.nil _⟩ (fun m Gx _ hP => O.row b o ho _) (fun m x Gx hx hP => ?_) (fun G1 hP => ?_)⟩
    · obtain ⟨sG, vs, h1, h2⟩ := hP
      obtain ⟨rfl, p, hp⟩ := pl hx
      have tk : rowsS (o.take (m + 1)) = rowsS (o.take m) ++ [.r p.1 p.2] := by
        unfold rowsS
        rw [List.take_add_one, hp, List.map_append]
        rfl
      refine ⟨pA K b m, _, rfl, O.pair b o ho m p hp _, rfl, _, _, rfl, _, _, rfl, rfl, rfl, ?_⟩
      refine ⟨_, rfl, _, rfl, by show 3 ≤ sizeLine; decide, fun t ht => ?_⟩
      have st := same_upd (o := .tup [.str "rows", .int (p.1 : Int), .int (p.2 : Int)]) ht
      have h1' := st _ _ h1
      refine ⟨_, h1', ?_, same_at (sG.trans st) hD1, vs ++ [t], ?_, ?_⟩
      · rw [List.length_map, h2.1]
        unfold rowsS
        rw [List.length_map]
        exact Nat.lt_of_le_of_lt (Nat.le_trans (List.length_take_le' _ _) o2) (by decide)
      · rw [upd_same, List.map_append]
        rfl
      · rw [tk]
        exact ((h2.same st).append (StepsAt.one (show StpAt _ t (.r p.1 p.2) from upd_same))).updL h1'
    · obtain ⟨s1, vs1, h1, h2⟩ := hP
      rw [List.length_map, List.length_range, List.take_length] at h2
      refine ⟨_, rfl, oA K c, rfl, ⟨_, O.row c o' ho' _⟩, fun D2 hD2 => lc_tup (xs := (List.range o'.length).map fun j => V.ref (pA K c j)) (fun m Gx => Same G1 Gx ∧ ∃ vs : List Addr, Gx D2 = some (.lst (vs.map V.ref)) ∧ StepsAt Gx vs (colsS (o'.take m))) ⟨same_upd hD2, [], upd_same, StepsAt.nil _⟩ (fun m Gx _ hP => O.row c o' ho' _) (fun m x Gx hx hP => ?_) (fun G2 hP => ?_)⟩
      · obtain ⟨sG, vs, g1, g2⟩ := hP
        obtain ⟨rfl, p, hp⟩ := pl hx
        have tk : colsS (o'.take (m + 1)) = colsS (o'.take m) ++ [.c p.1 p.2] := by
          unfold colsS
          rw [List.take_add_one, hp, List.map_append]
          rfl
        refine ⟨pA K c m, _, rfl, O.pair c o' ho' m p hp _, rfl, _, _, rfl, _, _, rfl, rfl, rfl, ?_⟩
        refine ⟨_, rfl, _, rfl, by show 3 ≤ sizeLine; decide, fun t ht => ?_⟩
        have st := same_upd (o := .tup [.str "columns", .int (p.1 : Int), .int (p.2 : Int)]) ht
        have g1' := st _ _ g1
        refine ⟨_, g1', ?_, same_at (sG.trans st) hD2, vs ++ [t], ?_, ?_⟩
        · rw [List.length_map, g2.1]
          unfold colsS
          rw [List.length_map]
          exact Nat.lt_of_le_of_lt (Nat.le_trans (List.length_take_le' _ _) o2') (by decide)
        · rw [upd_same, List.map_append]
          rfl
        · rw [tk]
          exact ((g2.same st).append (StepsAt.one (show StpAt _ t (.c p.1 p.2) from upd_same))).updL g1'
      · obtain ⟨s2, vs2, g1, g2⟩ := hP
        rw [List.length_map, List.length_range, List.take_length] at g2
        have l1 : vs1.length ≤ 2 := by
          rw [h2.1]
          unfold rowsS
          rw [List.length_map]
          exact o2
        have l2 : vs2.length ≤ 2 := by
          rw [g2.1]
          unfold colsS
          rw [List.length_map]
          exact o2'
        refine ⟨D1, D2, _, _, rfl, rfl, s2 _ _ h1, g1, ?_, fun D3 hD3 => ?_⟩
        · rw [List.length_map, List.length_map]
          exact Nat.le_trans (m := 4) (by omega) (by decide)
        · have s3 := same_upd (o := .lst (vs1.map V.ref ++ vs2.map V.ref)) hD3
          have s12 := s1.trans s2
          exact ⟨D3, vs1 ++ vs2, rfl, s12.trans s3, s12.free hD3, by rw [upd_same, List.map_append], ((h2.same s2).append g2).same s3⟩
  obtain ⟨D3, vs, rfl, s1, hD3, hD31, hvs⟩ := hh
  have hlt1 := s1 _ _ (sb _ _ nlt hlt)
  have hwl1 := s1 _ _ hG
  have tv1 : StepsAt G1 tv tu := ⟨htv.1, fun i u s e1 e2 => by
    have h := htv.2 i u s e1 e2
    cases s <;> exact s1 _ _ (sb _ _ (fun e => by
      have h' := h
      unfold StpAt at h'
      rw [e, hw1] at h'
      cases h') h)⟩
  have lv : vs.length ≤ 4 := by
    rw [hvs.1, List.length_append]
    unfold rowsS colsS
    rw [List.length_map, List.length_map]
    omega
  have ltv : tv.length ≤ 1 := by rw [htv.1]; exact tu1
  refine ⟨_, rfl, .inl ⟨rfl, _, SqL.of hwl1⟩, _, rfl, _, rfl, D3, lt, _, _, rfl, rfl, hD31, hlt1, ?_, fun D4 hD4 => ?_⟩
  · rw [List.length_map, List.length_map]
    exact Nat.le_trans (m := 5) (by omega) (by decide)
  have s4 := same_upd (o := .lst (vs.map V.ref ++ tv.map V.ref)) hD4
  have hwl4 := s4 _ _ hwl1
  have ne4 : D4 ≠ wl := fun e => by rw [e, hwl1] at hD4; cases hD4
  have lus : us.length ≤ 80 := by
    rw [hW.len, List.length_append, List.length_map]
    have := List.length_take_le c ordL
    omega
  refine ⟨wl, _, .ref D4, rfl, rfl, hwl4, Nat.lt_of_le_of_lt (m := 100) (by rw [List.length_map]; omega) (by decide), us ++ [D4], _, _, _, _, rfl, ?_, ?_, ?_⟩
  · exact but_upd ((sb.trans (Same.but s1)).trans (Same.but s4))
  · rw [upd_same, List.map_append]
    rfl
  · rw [tkC, ← List.append_assoc]
    have e : wayL tu o o' = (rowsS o ++ colsS o') ++ tu := rfl
    rw [e]
    refine ((hW.same s1).same s4).snoc hwl4 ne4 (vs := vs ++ tv) (by rw [upd_same, List.map_append]) ((hvs.append tv1).same s4)
end
end TC
namespace TC
open PySem PySem.Spec PyProof.Rows L2 TCA TCX
/-! ### K17PD: least_square -/
def marksL (P : List Frm) (X : List Int) : List Int := (P.filter fun y => decide (y.1 = X)).map Prod.snd
theorem marks_mem {P : List Frm} {X : List Int} {k : Int} : k ∈ marksL P X ↔ (X, k) ∈ P := by
  unfold marksL
  constructor
  · intro h
    obtain ⟨y, hy, rfl⟩ := List.mem_map.mp h
    obtain ⟨h1, h2⟩ := List.mem_filter.mp hy
    rw [← of_decide_eq_true h2]
    exact h1
  · intro h
    exact List.mem_map.mpr ⟨(X, k), List.mem_filter.mpr ⟨h, decide_eq_true rfl⟩, rfl⟩
theorem marks_snoc (P : List Frm) (z : Frm) (X : List Int) : marksL (P ++ [z]) X = marksL P X ++ (if z.1 = X then [z.2] else []) := by
  unfold marksL
  rw [List.filter_append, List.map_append]
  congr 1
  by_cases e : z.1 = X
  · rw [if_pos e, List.filter_cons_of_pos (p := fun y : Frm => decide (y.1 = X)) (decide_eq_true e)]
    rfl
  · rw [if_neg e, List.filter_cons_of_neg (p := fun y : Frm => decide (y.1 = X)) (by rw [decide_eq_false e]; exact Bool.false_ne_true)]
    rfl
theorem lst_both {P : List Frm} {X : List Int} (h1 : ∃ y ∈ P, y.1 = X) (h2 : ∀ y ∈ P, ltL y.1 X = false) (b1 : (1 : Int) ∈ marksL P X) (b2 : (-1 : Int) ∈ marksL P X) : Lst P X 0 := ⟨h1, h2, by rw [if_pos ⟨marks_mem.mp b1, marks_mem.mp b2⟩]⟩
theorem lst_one {P : List Frm} {X : List Int} {m : Int} (h1 : ∃ y ∈ P, y.1 = X) (h2 : ∀ y ∈ P, ltL y.1 X = false) (one : ∀ y ∈ P, y.2 = 1 ∨ y.2 = -1) (no : ¬ ((1 : Int) ∈ marksL P X ∧ (-1 : Int) ∈ marksL P X)) (hm : m ∈ marksL P X) : Lst P X m := ⟨h1, h2, by
  rw [if_neg fun h => no ⟨marks_mem.mpr h.1, marks_mem.mpr h.2⟩]
  have q := one _ (marks_mem.mp hm)
  dsimp only at q
  rcases q with rfl | rfl
  · rw [if_pos (marks_mem.mp hm)]
  · rw [if_neg fun h => no ⟨marks_mem.mpr h, hm⟩]⟩
theorem Lst.perm {P P' : List Frm} {X : List Int} {m : Int} (h : Lst P X m) (p : P.Perm P') : Lst P' X m := by
  obtain ⟨⟨y, hy, e⟩, h2, h3⟩ := h
  refine ⟨⟨y, p.mem_iff.mp hy, e⟩, fun z hz => h2 z (p.mem_iff.mpr hz), ?_⟩
  have q : ∀ k : Int, (X, k) ∈ P ↔ (X, k) ∈ P' := fun k => p.mem_iff
  rw [h3]
  by_cases h1 : (X, (1 : Int)) ∈ P <;> by_cases h2 : (X, (-1 : Int)) ∈ P <;> simp only [h1, h2, (q 1).mp, (q (-1)).mp, ← q 1, ← q (-1)]
/-- a square of nine numbers -/
abbrev sqF (g : Nat → Int) : Nat → Nat → Int := fun x y => g (idx x y)
/-- the forms, as the law lists them -/
def frmsL (g : Nat → Int) : List Frm := formsL.map fun z => outF g (formI z)
theorem frms_len (g : Nat → Int) : ∀ y ∈ frmsL g, y.1.length = 9 ∧ (y.2 = 1 ∨ y.2 = -1) := fun y hy => by
  obtain ⟨z, _, rfl⟩ := List.mem_map.mp hy
  exact ⟨rfl, mk_one _ _⟩
def frmW (g : Nat → Int) (ss : List Stp) : Frm := (nine (behind ss (sqF g)), mk17 (g 0 + g 1 + g 2) (cntX ss))
theorem frmW_eq (g : Nat → Int) (ss : List Stp) : frmW g ss = outF g (wayI ss) := by
  unfold frmW outF wayI
  refine Prod.ext ?_ ?_
  · show nine (behind ss (sqF g)) = (nine (behind ss idx)).map g
    rw [← nine_map]
    exact congrArg nine (behind_map g ss idx)
  · exact (mk_mod _ _).symm
theorem frms_perm (g : Nat → Int) {ws : List (List Stp)} (h : ws.Perm waysL) : (ws.map (frmW g)).Perm (frmsL g) := by
  refine (h.map _).trans ?_
  have e : waysL.map (frmW g) = (waysL.map wayI).map (outF g) := by
    rw [List.map_map]
    exact List.map_congr_left fun ss _ => frmW_eq g ss
  have e2 : frmsL g = (formsL.map formI).map (outF g) := by
    rw [List.map_map]
    rfl
  rw [e, e2]
  exact ways_perm.map _
/-- a form and its mark on the heap -/
def FrmAt (H : Hp) (u : Addr) (y : Frm) : Prop := ∃ (b : Addr) (S : Nat → Nat → Int), H u = some (.tup [.ref b, .int y.2]) ∧ SqA H b S ∧ nine S = y.1
theorem FrmAt.same {H H' : Hp} {u : Addr} {y : Frm} (h : FrmAt H u y) (s : Same H H') : FrmAt H' u y := by
  obtain ⟨b, S, h1, h2, h3⟩ := h
  exact ⟨b, S, s _ _ h1, h2.same s, h3⟩
theorem FrmAt.updL {H : Hp} {u l : Addr} {y : Frm} {xs : List V} {o : HO} (h : FrmAt H u y) (hl : H l = some (.lst xs)) : FrmAt (upd H l o) u y := by
  obtain ⟨b, S, h1, ⟨r0, r1, r2, g0, g1, g2, g3⟩, h3⟩ := h
  have k : ∀ {a : Addr} {zs : List V}, H a = some (.tup zs) → (upd H l o) a = some (.tup zs) := fun {a zs} e => by
    rw [upd_ne fun z => by rw [z, hl] at e; cases e]
    exact e
  exact ⟨b, S, k h1, ⟨r0, r1, r2, k g0, k g1, k g2, k g3⟩, h3⟩
structure FrmsAt (H : Hp) (us : List Addr) (P : List Frm) : Prop where
  len : us.length = P.length
  at_ : ∀ (i : Nat) u y, us[i]? = some u → P[i]? = some y → FrmAt H u y
theorem FrmsAt.nil (H : Hp) : FrmsAt H [] [] := ⟨rfl, fun i u y h => by simp at h⟩
theorem FrmsAt.same {H H' : Hp} {us : List Addr} {P : List Frm} (h : FrmsAt H us P) (s : Same H H') : FrmsAt H' us P := ⟨h.len, fun i u y e1 e2 => (h.at_ i u y e1 e2).same s⟩
theorem FrmsAt.updL {H : Hp} {us : List Addr} {P : List Frm} {l : Addr} {xs : List V} {o : HO} (h : FrmsAt H us P) (hl : H l = some (.lst xs)) : FrmsAt (upd H l o) us P := ⟨h.len, fun i u y e1 e2 => (h.at_ i u y e1 e2).updL hl⟩
theorem FrmsAt.snoc {H : Hp} {us : List Addr} {P : List Frm} {u : Addr} {y : Frm} (h : FrmsAt H us P) (hy : FrmAt H u y) : FrmsAt H (us ++ [u]) (P ++ [y]) := by
  refine ⟨by rw [List.length_append, List.length_append, h.len]; rfl, fun i u' y' e1 e2 => ?_⟩
  have l := h.len
  by_cases z : i < us.length
  · rw [List.getElem?_append_left z] at e1
    rw [List.getElem?_append_left (by omega)] at e2
    exact h.at_ i u' y' e1 e2
  · rw [List.getElem?_append_right (by omega)] at e1
    rw [List.getElem?_append_right (by omega), ← l] at e2
    match i - us.length, e1, e2 with
    | 0, e1, e2 =>
      cases e1
      cases e2
      exact hy
theorem sqD_inj {X Y : List Int} (hX : X.length = 9) (hY : Y.length = 9) (h : sqD X = sqD Y) : X = Y := by
  have e := sq_eqv hX hY
  rw [h, sq_eqv hY hY, decide_eq_true rfl] at e
  exact of_decide_eq_true e.symm
theorem sq_shaped {X : List Int} (h : X.length = 9) : SeqAt.shaped (sqD X) = true := by
  match X, h with
  | [a, b, c, d, e, f, g, h, i], _ => rfl
theorem sq_depth {X : List Int} (h : X.length = 9) : PyData.depth (sqD X) = 2 := by
  match X, h with
  | [a, b, c, d, e, f, g, h, i], _ => rfl
theorem sq_some {X : List Int} (h : X.length = 9) : sqD X ≠ .none := by
  match X, h with
  | [a, b, c, d, e, f, g, h, i], _ => exact fun e => by cases e
theorem inV_int (k : Int) (ms : List Int) : inV (.int k) (ms.map V.int) = decide (k ∈ ms) := by
  unfold inV
  induction ms with
  | nil => rfl
  | cons m ms ih =>
    rw [List.map_cons, List.any_cons, ih]
    have e : eqV (.int m) (.int k) = decide (m = k) := rfl
    rw [e, Bool.eq_iff_iff]
    simp only [Bool.or_eq_true, decide_eq_true_eq, List.mem_cons]
    constructor <;> rintro (h | h)
    · exact .inl h.symm
    · exact .inr h
    · exact .inl h.symm
    · exact .inr h
/-- min over the forms: the form's square, at its place -/
theorem min_forms {P : List Frm} {y0 : Frm} {P' : List Frm} (eP : P = y0 :: P') (len : ∀ y ∈ P, y.1.length = 9) {i : Nat} {y : Frm} (hy : P[i]? = some y) (e : sqD y.1 = PySem.W.minD (sqD y0.1) (P'.map fun y => sqD y.1)) : ∀ z ∈ P, ltL z.1 y.1 = false := by
  have l9 : ∀ w ∈ y0.1 :: P'.map (·.1), w.length = 9 := fun w hw => by
    rcases List.mem_cons.mp hw with rfl | hw
    · exact len _ (by rw [eP]; exact List.mem_cons_self)
    · obtain ⟨z, hz, rfl⟩ := List.mem_map.mp hw
      exact len _ (by rw [eP]; exact List.mem_cons_of_mem _ hz)
  have m := min_sq (P'.map (·.1)) y0.1 l9
  rw [List.map_map] at m
  have e2 : sqD y.1 = sqD (minF y0.1 (P'.map (·.1))) := e.trans m
  obtain ⟨m1, m2⟩ := minF_ok (P'.map (·.1)) y0.1 l9
  have e3 := sqD_inj (len y (List.mem_of_getElem? hy)) (l9 _ m1) e2
  intro z hz
  rw [e3]
  refine m2 _ ?_
  rw [eP] at hz
  rcases List.mem_cons.mp hz with rfl | hz
  · exact List.mem_cons_self
  · exact List.mem_cons_of_mem _ (List.mem_map.mpr ⟨z, hz, rfl⟩)
theorem zipL {α β γ : Type} {f : α → γ} : ∀ {as : List α} {bs : List β}, as.length = bs.length → List.zipWith (fun a _ => f a) as bs = as.map f
  | [], [], _ => rfl
  | a :: as, b :: bs, h => by
    show f a :: List.zipWith (fun a _ => f a) as bs = f a :: as.map f
    rw [zipL (Nat.succ.inj h)]
theorem zipR {α β γ : Type} {f : β → γ} : ∀ {as : List α} {bs : List β}, as.length = bs.length → List.zipWith (fun _ b => f b) as bs = bs.map f
  | [], [], _ => rfl
  | a :: as, b :: bs, h => by
    show f b :: List.zipWith (fun _ b => f b) as bs = f b :: bs.map f
    rw [zipR (Nat.succ.inj h)]
theorem sq_none_depth {P : List Frm} (len : ∀ y ∈ P, y.1.length = 9) : PyData.depthAll (P.map fun y => sqD y.1) ≤ 2 := by
  induction P with
  | nil => exact Nat.zero_le _
  | cons y P ih =>
    show max (PyData.depth (sqD y.1)) (PyData.depthAll (P.map fun y => sqD y.1)) ≤ 2
    refine Nat.max_le.mpr ⟨Nat.le_of_eq (sq_depth (len y List.mem_cons_self)), ih fun z hz => len z (List.mem_cons_of_mem _ hz)⟩
section
variable {P : Program} {w : World} {K : PySem.W.Frag} {mg : Str → Option Value} {base : Heap} {f : Addr} {fd : FuncData}
def spLeastSq (K : PySem.W.Frag) : Sp := fun vs H Q _ => ∃ (a : Addr) (g : Nat → Int), vs = [.ref a] ∧ SqA H a (sqF g) ∧ ∀ (t u : Addr) (S : Nat → Nat → Int) (m : Int) (H' : Hp), Same H H' → H' t = some (.tup [.ref u, .int m]) → SqA H' u S → Lst (frmsL g) (nine S) m → Q (.ref t) H'
abbrev nLeastSq : List Str := ["square", "found", "steps", "least", "reached", "mark", "marks"]
theorem scLeastSq : FnScope nLeastSq ["square"] (defScope sLeastSq) := ⟨rfl, rfl, rfl, by decide +kernel, rfl, by decide +kernel, by decide +kernel⟩
set_option maxHeartbeats 0 in
theorem ok_leastSq {fB fS fW : Addr} {fdB fdS fdW : FuncData} (F : FnP K "least_square" sLeastSq f fd)
    (GB : FnOk P w K mg base CX0 2 fB fdB ["square", "steps"] spBehind) (bB : L2.Binds K fdB ["square", "steps"] []) (kB : PySem.W.keepIn K (.ref fB) = true) (gB : mg "square_behind" = some (.ref fB))
    (GSA : FnOk P w K mg base CX0 2 fS fdS ["square", "steps"] spSign) (bSA : L2.Binds K fdS ["square", "steps"] []) (kSA : PySem.W.keepIn K (.ref fS) = true) (gSA : mg "sign_along" = some (.ref fS))
    (GW : FnOk P w K mg base CX0 1 fW fdW [] spAllWays) (bW : L2.Binds K fdW [] []) (kW : PySem.W.keepIn K (.ref fW) = true) (gW : mg "all_ways" = some (.ref fW)) (gmin : mg "min" = none) : FnOk P w K mg base CX0 3 f fd ["square"] (spLeastSq K) := by
  refine F.ok scLeastSq (fun vs H Q E h => ?_) (fun cdv Ar outer s H vs Q E hr h => ?_)
  · obtain ⟨_, _, rfl, _⟩ := h
    rfl
  obtain ⟨a, g, rfl, hS, q⟩ := h
  have hu := hr.units
  have hr1 := hr.mono (j := 1) (by decide)
  have hr2 := hr
  refine ⟨_, PSs.nox (C8.pss_cut (ps_setLc (i := 1) (own := [("steps", 2)]) (g := gName 2) (tt := tYes) (te := (tTup (tCons (tCall spBehind [] E0 (tCons (tVar 0) (tCons (tVar 2) tNil))) (tCons (tCall spSign [] E0 (tCons (tVar 0) (tCons (tVar 2) tNil))) tNil)))) (by rfl) scLeastSq.nd rfl rfl (sw_true rfl rfl rfl (by decide +kernel)) (pi_list (pe_call0 GW hr1 (by rfl) gW kW bW .nil pass0))
          (blkOk_by (N := nLeastSq) (sc := defScope sLeastSq) (by decide +kernel)) (fun _ _ _ _ _ => pg_name (i := 2) scLeastSq.nd rfl (.inl rfl)) (fun _ _ _ _ _ => pts_nil) (fun _ _ _ _ _ => (pe_tup (pa_cons (pe_call GB hr2 (by rfl) gB kB bB .nil pass0 (pa_cons (pv 0) (pa_cons (pv 2) pa_nil))) (pa_cons (pe_call GSA hr2 (by rfl) gSA kSA bSA .nil pass0 (pa_cons (pv 0) (pa_cons (pv 2) pa_nil))) pa_nil)))))
      (C8.pss_cut (ps_set (i := 3) scLeastSq.nd rfl (.inr rfl) (pe_callB (cr_minLD rfl hu) (by rfl) gmin (by decide +kernel) (pa_cons (pe_lc (own := [("reached", 4), ("mark", 5)]) (g := gTup K 2 (gCons (gName 4) (gCons (gName 5) gNil))) (tt := tYes) (te := (tVar 4)) (by rfl) scLeastSq.nd (pi_list (pv 1))
          (blkOk_by (N := nLeastSq) (sc := defScope sLeastSq) (by decide +kernel)) (fun _ _ _ _ _ => pg_tup rfl (pgs_cons (pg_name (i := 4) scLeastSq.nd rfl (.inl rfl)) (pgs_cons (pg_name (i := 5) scLeastSq.nd rfl (.inl rfl)) pgs_nil))) (fun _ _ _ _ _ => pts_nil) (fun _ _ _ _ _ => (pv 4))) pa_nil)))
      (C8.pss_cut (ps_setLc (i := 6) (own := [("reached", 4), ("mark", 5)]) (g := gTup K 2 (gCons (gName 4) (gCons (gName 5) gNil))) (tt := (tTest (tOp (rEqD K) (tVar 4) (tVar 3)))) (te := (tVar 5)) (by rfl) scLeastSq.nd rfl rfl (sw_true rfl rfl rfl (by decide +kernel)) (pi_list (pv 1))
          (blkOk_by (N := nLeastSq) (sc := defScope sLeastSq) (by decide +kernel)) (fun _ _ _ _ _ => pg_tup rfl (pgs_cons (pg_name (i := 4) scLeastSq.nd rfl (.inl rfl)) (pgs_cons (pg_name (i := 5) scLeastSq.nd rfl (.inl rfl)) pgs_nil))) (fun _ _ _ _ _ => pts_one (pt_cmpR (op_eqD hu) (pv 4) (pv 3) (nomark _))) (fun _ _ _ _ _ => (pv 5)))
      (pss_cons (ps_if (PW.pt (pw_and (pt_cmpR op_in_seq pe_int (pv 6) (by rfl)) (pw_and1 (pt_cmpR op_in_seq (pe_un un_neg pe_int) (pv 6) (by rfl))))) (pss_one (ps_ret (pe_tup (pa_cons (pv 3) (pa_cons pe_int pa_nil))))) pss_nil)
      (pss_one (ps_ret (pe_tup (pa_cons (pv 3) (pa_cons (pe_ix ix_list (pv 6) pe_int (fun _ _ => rfl)) pa_nil))))))))), ?_⟩
  refine ⟨fun σ G => ∃ (D : Addr) (us : List Addr) (P : List Frm), σ = [some (.ref a), some (.ref D), none, none, none, none, none] ∧ Same H G ∧ G D = some (.lst (us.map V.ref)) ∧ FrmsAt G us P ∧ P.Perm (frmsL g), ?_, fun σ G hh => ?_⟩
  · refine ⟨rfl, fun l lu ws H1 s1 hl lw pw hw => ?_⟩
    have wsok : ∀ ss ∈ ws, (∀ s ∈ ss, okS s) ∧ ss.length ≤ 20 := fun ss hss => by
      have m := pw.mem_iff.mp hss
      have e : ∀ ss ∈ waysL, ss.all (fun s => match s with
        | .r i j => decide ((i, j) ∈ ([(0, 1), (0, 2), (1, 2)] : List (Nat × Nat)))
        | .c i j => decide ((i, j) ∈ ([(0, 1), (0, 2), (1, 2)] : List (Nat × Nat)))
        | .t => true) = true ∧ ss.length ≤ 20 := by decide +kernel
      obtain ⟨e1, e2⟩ := e ss m
      refine ⟨fun st hst => ?_, e2⟩
      have e3 := List.all_eq_true.mp e1 st hst
      cases st with
      | r i j => exact of_decide_eq_true (p := (i, j) ∈ ([(0, 1), (0, 2), (1, 2)] : List (Nat × Nat))) e3
      | c i j => exact of_decide_eq_true (p := (i, j) ∈ ([(0, 1), (0, 2), (1, 2)] : List (Nat × Nat))) e3
      | t => trivial
    have l72 : ws.length = 72 := by rw [pw.length_eq]; rfl
    refine ⟨l, rfl, ⟨_, SqL.of hl⟩, fun D hD => lc_list (xs := lu.map V.ref) (fun i G => Same H1 G ∧ ∃ us : List Addr, G D = some (.lst (us.map V.ref)) ∧ FrmsAt G us ((ws.take i).map (frmW g))) ⟨same_upd hD, [], upd_same, FrmsAt.nil _⟩ (fun i G _ hP => SqL.of (hP.1 _ _ hl)) (fun i x G hx hP => ?_) (fun G hP => ?_)⟩
    · obtain ⟨sG, us, hG, hF⟩ := hP
      rw [List.getElem?_map] at hx
      obtain ⟨u, hu', rfl⟩ := Option.map_eq_some_iff.mp hx
      have il : i < lu.length := (List.getElem?_eq_some_iff.mp hu').1
      obtain ⟨ss, hss⟩ : ∃ ss, ws[i]? = some ss := ⟨_, List.getElem?_eq_getElem (by omega)⟩
      obtain ⟨ok, l20⟩ := wsok ss (List.mem_of_getElem? hss)
      have hWay := (hw i u ss hu' hss).same sG
      have tk : (ws.take (i + 1)).map (frmW g) = (ws.take i).map (frmW g) ++ [frmW g ss] := by
        rw [List.take_add_one, hss, List.map_append]
        rfl
      have sHG := s1.trans sG
      refine ⟨rfl, _, rfl, _, rfl, a, u, _, ss, rfl, hS.same sHG, hWay, ok, l20, fun b H2 s2 hb => ?_⟩
      refine ⟨_, rfl, _, rfl, a, u, _, ss, rfl, hS.same (sHG.trans s2), hWay.same s2, l20, fun H3 s3 => ?_⟩
      refine ⟨by show 2 ≤ sizeLine; decide, fun t ht => ?_⟩
      have st := same_upd (o := .tup [.ref b, .int (mk17 (sqF g 0 0 + sqF g 0 1 + sqF g 0 2) (cntX ss))]) ht
      have s23 := (s2.trans s3).trans st
      have hG' := s23 _ _ hG
      refine ⟨_, hG', ?_, same_at (sG.trans s23) hD, us ++ [t], ?_, ?_⟩
      · rw [List.length_map, hF.len, List.length_map]
        have := List.length_take_le' i ws
        exact Nat.lt_of_le_of_lt (m := 72) (by omega) (by decide)
      · rw [upd_same, List.map_append]
        rfl
      · rw [tk]
        exact ((hF.same s23).snoc (y := frmW g ss) ⟨b, _, upd_same, (hb.same s3).same st, rfl⟩).updL hG'
    · obtain ⟨sG, us, hG, hF⟩ := hP
      rw [List.length_map, lw, List.take_length] at hF
      exact ⟨D, us, _, rfl, s1.trans sG, hG, hF, frms_perm g pw⟩
  obtain ⟨D, us, P, rfl, s1, hD, hF, pm⟩ := hh
  have len9 : ∀ y ∈ P, y.1.length = 9 := fun y hy => (frms_len g y (pm.mem_iff.mp hy)).1
  have one : ∀ y ∈ P, y.2 = 1 ∨ y.2 = -1 := fun y hy => (frms_len g y (pm.mem_iff.mp hy)).2
  have l72 : P.length = 72 := by rw [pm.length_eq]; rfl
  refine ⟨fun σ G2 => ∃ (i : Nat) (b u : Addr) (S : Nat → Nat → Int) (y : Frm), σ = [some (.ref a), some (.ref D), none, some (.ref b), none, none, none] ∧ Same G G2 ∧ P[i]? = some y ∧ SqA G2 b S ∧ nine S = y.1 ∧ ∀ z ∈ P, ltL z.1 y.1 = false, ?_, fun σ G2 hh => ?_⟩
  · obtain ⟨y0, P', eP⟩ : ∃ y0 P', P = y0 :: P' := by
      cases P with
      | nil => cases l72
      | cons y0 P' => exact ⟨y0, P', rfl⟩
    refine ⟨_, rfl, D, rfl, ⟨_, SqL.of hD⟩, fun D2 hD2 => lc_list (xs := us.map V.ref) (fun i G2 => Same G G2 ∧ ∃ bs : List Addr, G2 D2 = some (.lst (bs.map V.ref)) ∧ bs.length = i ∧ ∀ (j : Nat) b y, bs[j]? = some b → P[j]? = some y → ∃ S, SqA G2 b S ∧ nine S = y.1) ⟨same_upd hD2, [], upd_same, rfl, fun j b y h _ => by simp at h⟩ (fun i G2 _ hP => SqL.of (hP.1 _ _ hD)) (fun i x G2 hx hP => ?_) (fun G2 hP => ?_)⟩
    · obtain ⟨sG, bs, hG, lb, hB⟩ := hP
      rw [List.getElem?_map] at hx
      obtain ⟨u, hu', rfl⟩ := Option.map_eq_some_iff.mp hx
      have il : i < us.length := (List.getElem?_eq_some_iff.mp hu').1
      have lF := hF.len
      obtain ⟨y, hy⟩ : ∃ y, P[i]? = some y := ⟨_, List.getElem?_eq_getElem (by omega)⟩
      obtain ⟨b, S, h1, h2, h3⟩ := (hF.at_ i u y hu' hy).same sG
      refine ⟨u, _, rfl, SqT.of h1, rfl, _, _, rfl, _, _, rfl, rfl, rfl, ?_⟩
      refine ⟨_, rfl, _, hG, ?_, same_at sG hD2, bs ++ [b], ?_, ?_, fun j b' y' e1 e2 => ?_⟩
      · rw [List.length_map, lb]
        exact Nat.lt_of_le_of_lt (m := 72) (by omega) (by decide)
      · rw [upd_same, List.map_append]
        rfl
      · rw [List.length_append, lb]
        rfl
      · have kt : ∀ {c : Addr} {zs : List V} {o : HO}, G2 c = some (.tup zs) → (upd G2 D2 o) c = some (.tup zs) := fun {c zs o} e => by
          rw [upd_ne fun z => by rw [z, hG] at e; cases e]
          exact e
        have ks : ∀ {c : Addr} {S : Nat → Nat → Int} {o : HO}, SqA G2 c S → SqA (upd G2 D2 o) c S := fun {c S o} ⟨r0, r1, r2, g0, g1, g2, g3⟩ => ⟨r0, r1, r2, kt g0, kt g1, kt g2, kt g3⟩
        by_cases z : j < bs.length
        · rw [List.getElem?_append_left z] at e1
          obtain ⟨S', q1, q2⟩ := hB j b' y' e1 e2
          exact ⟨S', ks q1, q2⟩
        · have jl : j < (bs ++ [b]).length := (List.getElem?_eq_some_iff.mp e1).1
          rw [List.length_append] at jl
          have ej : j = bs.length := by
            have : ([b] : List Addr).length = 1 := rfl
            omega
          rw [ej, List.getElem?_append_right (Nat.le_refl _), Nat.sub_self] at e1
          cases e1
          rw [ej, lb, hy] at e2
          cases e2
          exact ⟨S, ks h2, h3⟩
    · obtain ⟨sG, bs, hG, lb, hB⟩ := hP
      have lF := hF.len
      rw [List.length_map, lF] at lb
      -- as values and data
      obtain ⟨zs, ez⟩ : ∃ zs : List VD, bs.zipWith (fun b (y : Frm) => (V.ref b, sqD y.1)) P = zs := ⟨_, rfl⟩
      have z1 : zs.map (·.1) = bs.map V.ref := by
        rw [← ez, List.map_zipWith]
        exact zipL lb
      have z2 : zs.map (·.2) = P.map fun y => sqD y.1 := by
        rw [← ez, List.map_zipWith]
        exact zipR lb
      have zd : ∀ v ∈ zs, Dp K G2 v.1 v.2 := fun v hv => by
        obtain ⟨j, hj⟩ := List.getElem?_of_mem hv
        have h1 : (zs.map (·.1))[j]? = some v.1 := by rw [List.getElem?_map, hj]; rfl
        have h2 : (zs.map (·.2))[j]? = some v.2 := by rw [List.getElem?_map, hj]; rfl
        rw [z1, List.getElem?_map] at h1
        rw [z2, List.getElem?_map] at h2
        obtain ⟨b, e1, e1'⟩ := Option.map_eq_some_iff.mp h1
        obtain ⟨y, e2, e2'⟩ := Option.map_eq_some_iff.mp h2
        obtain ⟨S, q1, q2⟩ := hB j b y e1 e2
        rw [← e1', ← e2', ← q2]
        exact q1.dp
      obtain ⟨z0, zs', e0⟩ : ∃ z0 zs', zs = z0 :: zs' := by
        cases zs with
        | nil =>
          rw [eP] at z2
          cases z2
        | cons z0 zs' => exact ⟨z0, zs', rfl⟩
      have dAll : DpAll K G2 (zs.map (·.1)) (zs.map (·.2)) := by
        have key : ∀ {l : List VD}, (∀ v ∈ l, Dp K G2 v.1 v.2) → DpAll K G2 (l.map (·.1)) (l.map (·.2)) := fun {l} => by
          induction l with
          | nil => exact fun _ => .nil
          | cons c l ih => exact fun h => .cons (h c List.mem_cons_self) (ih fun v hv => h v (List.mem_cons_of_mem _ hv))
        exact key zd
      have lzs : zs.length = P.length := by
        have := congrArg List.length z2
        rw [List.length_map, List.length_map] at this
        exact this
      refine ⟨D2, z0, zs', rfl, ?_, ?_, ?_, ?_, fun i v hv ev => ?_⟩
      · rw [← e0, z1]
        exact SqL.of hG
      · rw [← e0]
        exact dAll
      · rw [← e0, z2]
        refine ⟨fun d hd d' hd' => ?_, fun d hd => ?_⟩
        · obtain ⟨y, hy, rfl⟩ := List.mem_map.mp hd
          obtain ⟨y', hy', rfl⟩ := List.mem_map.mp hd'
          exact sq_alike (len9 y hy) (len9 y' hy')
        · obtain ⟨y, hy, rfl⟩ := List.mem_map.mp hd
          exact sq_some (len9 y hy)
      · rw [← e0, z2]
        exact Nat.le_trans (sq_none_depth len9) (by decide)
      · rw [← e0] at hv
        have h1 : (zs.map (·.1))[i]? = some v.1 := by rw [List.getElem?_map, hv]; rfl
        have h2 : (zs.map (·.2))[i]? = some v.2 := by rw [List.getElem?_map, hv]; rfl
        rw [z1, List.getElem?_map] at h1
        rw [z2, List.getElem?_map] at h2
        obtain ⟨b, e1, e1'⟩ := Option.map_eq_some_iff.mp h1
        obtain ⟨y, e2, e2'⟩ := Option.map_eq_some_iff.mp h2
        obtain ⟨S, q1, q2⟩ := hB i b y e1 e2
        have zz : z0.2 = sqD y0.1 ∧ zs'.map (·.2) = P'.map fun y => sqD y.1 := by
          rw [e0, eP] at z2
          have := List.cons.inj z2
          exact ⟨this.1, this.2⟩
        rw [← e1']
        refine ⟨i, b, b, S, y, rfl, sG, e2, q1, q2, min_forms eP len9 e2 ?_⟩
        rw [e2', ev, zz.1, zz.2]
  obtain ⟨i, b, u, S, y, rfl, s2, hy, hb, eS, low⟩ := hh
  refine ⟨fun σ G3 => ∃ (M : Addr), σ = [some (.ref a), some (.ref D), none, some (.ref b), none, none, some (.ref M)] ∧ Same G2 G3 ∧ G3 M = some (.lst ((marksL P y.1).map V.int)), ?_, fun σ G3 hh => ?_⟩
  · have ym := List.mem_of_getElem? hy
    have d2 := s2 _ _ hD
    have F2 := hF.same s2
    refine ⟨_, rfl, D, rfl, ⟨_, SqL.of d2⟩, fun M hM => lc_list (xs := us.map V.ref) (fun j G3 => Same G2 G3 ∧ G3 M = some (.lst ((marksL (P.take j) y.1).map V.int))) ⟨same_upd hM, upd_same⟩ (fun j G3 _ hP => SqL.of (hP.1 _ _ d2)) (fun j x G3 hx hP => ?_) (fun G3 hP => ?_)⟩
    · obtain ⟨sG, hG⟩ := hP
      rw [List.getElem?_map] at hx
      obtain ⟨u', hu', rfl⟩ := Option.map_eq_some_iff.mp hx
      have il : j < us.length := (List.getElem?_eq_some_iff.mp hu').1
      have lF := hF.len
      obtain ⟨z, hz⟩ : ∃ z, P[j]? = some z := ⟨_, List.getElem?_eq_getElem (by omega)⟩
      obtain ⟨b', S', h1, h2, h3⟩ := (F2.at_ j u' z hu' hz).same sG
      have zm := List.mem_of_getElem? hz
      have tk : P.take (j + 1) = P.take j ++ [z] := by
        rw [List.take_add_one, hz]
        rfl
      refine ⟨u', _, rfl, SqT.of h1, rfl, _, _, rfl, _, _, rfl, rfl, rfl, ?_⟩
      have dz : Dp K G3 (.ref b') (sqD z.1) := by rw [← h3]; exact h2.dp
      have dy : Dp K G3 (.ref b) (sqD y.1) := by rw [← eS]; exact (hb.same sG).dp
      refine ⟨_, rfl, _, rfl, _, _, dz, dy, sq_shaped (len9 z zm), sq_shaped (len9 y ym), decide (z.1 = y.1), congrArg V.bl (sq_eqv (len9 z zm) (len9 y ym)), ?_⟩
      by_cases e : z.1 = y.1
      · rw [decide_eq_true e]
        refine iteT ⟨_, rfl, _, hG, ?_, same_at sG hM, ?_⟩
        · unfold marksL
          rw [List.length_map, List.length_map]
          refine Nat.lt_of_le_of_lt (Nat.le_trans (List.length_filter_le _ _) (List.length_take_le' _ _)) ?_
          rw [l72]
          decide
        · rw [upd_same, tk, marks_snoc, if_pos e, List.map_append]
          rfl
      · rw [decide_eq_false e]
        refine iteF ⟨sG, ?_⟩
        rw [hG, tk, marks_snoc, if_neg e, List.append_nil]
    · obtain ⟨sG, hG⟩ := hP
      rw [List.length_map, hF.len, List.take_length] at hG
      exact ⟨M, rfl, sG, hG⟩
  obtain ⟨M, rfl, s3, hM⟩ := hh
  have ym := List.mem_of_getElem? hy
  have mem : y.2 ∈ marksL P y.1 := marks_mem.mpr ym
  have fl : ((marksL P y.1).map V.int).all flatV = true := by
    rw [List.all_map]
    exact List.all_eq_true.mpr fun _ _ => rfl
  have sq := (s1.trans s2).trans s3
  have fin : ∀ m : Int, Lst P y.1 m → ∀ (t : Addr), G3 t = none → Q (.ref t) (upd G3 t (.tup [.ref b, .int m])) := fun m hl t ht => by
    have st := same_upd (o := .tup [.ref b, .int m]) ht
    refine q t b S m _ (sq.trans st) upd_same ((hb.same s3).same st) ?_
    rw [eS]
    exact Lst.perm hl pm
  have hd : ∃ y', y' ∈ P ∧ y'.1 = y.1 := ⟨y, ym, rfl⟩
  refine ⟨_, rfl, M, _, rfl, .inl (SqL.of hM), rfl, fl, decide ((1 : Int) ∈ marksL P y.1), congrArg V.bl (inV_int _ _), ?_⟩
  by_cases c1 : (1 : Int) ∈ marksL P y.1
  · rw [decide_eq_true c1]
    refine iteT ?_
    refine ⟨_, rfl, _, rfl, M, _, rfl, .inl (SqL.of hM), rfl, fl, decide ((-1 : Int) ∈ marksL P y.1), congrArg V.bl (inV_int _ _), ?_⟩
    by_cases c2 : (-1 : Int) ∈ marksL P y.1
    · rw [decide_eq_true c2]
      refine iteT ⟨_, rfl, by show 2 ≤ sizeLine; decide, fun t ht => fin 0 (lst_both hd low c1 c2) t ht⟩
    · rw [decide_eq_false c2]
      refine iteF ?_
      obtain ⟨m, ms, em⟩ : ∃ m ms, marksL P y.1 = m :: ms := by
        cases e : marksL P y.1 with
        | nil => rw [e] at mem; cases mem
        | cons m ms => exact ⟨m, ms, rfl⟩
      refine ⟨_, rfl, _, rfl, M, _, 0, .int m, rfl, rfl, SqL.of hM, atI_nat (j := 0) (by rw [em]; rfl), by show 2 ≤ sizeLine; decide, fun t ht => fin m (lst_one hd low one (fun h => c2 h.2) (by rw [em]; exact List.mem_cons_self)) t ht⟩
  · rw [decide_eq_false c1]
    refine iteF ?_
    obtain ⟨m, ms, em⟩ : ∃ m ms, marksL P y.1 = m :: ms := by
      cases e : marksL P y.1 with
      | nil => rw [e] at mem; cases mem
      | cons m ms => exact ⟨m, ms, rfl⟩
    refine ⟨_, rfl, _, rfl, M, _, 0, .int m, rfl, rfl, SqL.of hM, atI_nat (j := 0) (by rw [em]; rfl), by show 2 ≤ sizeLine; decide, fun t ht => fin m (lst_one hd low one (fun h => c1 h.1) (by rw [em]; exact List.mem_cons_self)) t ht⟩
end
end TC
namespace TC
open PySem PySem.Spec PyProof.Rows L2 TCA TCX
/-! ### K17PE: square_of, least_three -/
/-- three pairs that have a square -/
structure Tri (a u b v c w : Int) : Prop where
  p1 : PairP a u
  p2 : PairP b v
  p3 : PairP c w
  j : canB a b c = true
  z : u + v + w = 0
def sqN (a u b v c w : Int) : Nat → Int
  | 0 => (b + c - a) / 2
  | 1 => (c + a - b) / 2
  | 2 => (a + b - c) / 2
  | 3 => (a - u) / 2
  | 4 => (b - v) / 2
  | 5 => (c - w) / 2
  | 6 => (a + u) / 2
  | 7 => (b + v) / 2
  | 8 => (c + w) / 2
  | _ => 0
def Prs3 (H : Hp) (p1 p2 p3 : Addr) (a u b v c w : Int) : Prop := H p1 = some (pairO (a, u)) ∧ H p2 = some (pairO (b, v)) ∧ H p3 = some (pairO (c, w))
theorem Prs3.same {H H' : Hp} {p1 p2 p3 : Addr} {a u b v c w : Int} (h : Prs3 H p1 p2 p3 a u b v c w) (s : Same H H') : Prs3 H' p1 p2 p3 a u b v c w := ⟨s _ _ h.1, s _ _ h.2.1, s _ _ h.2.2⟩
section
variable {P : Program} {w : World} {K : PySem.W.Frag} {mg : Str → Option Value} {base : Heap} {f : Addr} {fd : FuncData}
def spNeedSquare : Sp := fun vs H Q _ => ∃ (p1 p2 p3 : Addr) (a u b v c w : Int), vs = [.ref p1, .ref p2, .ref p3] ∧ Prs3 H p1 p2 p3 a u b v c w ∧ Tri a u b v c w ∧ ∀ H', Same H H' → Q .non H'
abbrev nNeedSquare : List Str := ["one", "other", "third", "a", "u", "b", "v", "c", "w"]
theorem scNeedSquare : FnScope nNeedSquare ["one", "other", "third"] (defScope sNeedSquare) := ⟨rfl, rfl, rfl, by decide +kernel, rfl, by decide +kernel, by decide +kernel⟩
theorem ok_needSquare {fJ : Addr} {fdJ : FuncData} (F : FnP K "need_square" sNeedSquare f fd) (GCJ : FnOk P w K mg base CX0 2 fJ fdJ ["one", "other", "third"] spCanJoin) (bCJ : L2.Binds K fdJ ["one", "other", "third"] []) (kCJ : PySem.W.keepIn K (.ref fJ) = true) (gCJ : mg "can_join" = some (.ref fJ)) : FnOk P w K mg base CX0 3 f fd ["one", "other", "third"] spNeedSquare := by
  refine F.ok scNeedSquare (fun vs H Q E h => ?_) (fun cdv Ar outer s H vs Q E hr h => ?_)
  · obtain ⟨_, _, _, _, _, _, _, _, _, rfl, _⟩ := h
    rfl
  obtain ⟨p1, p2, p3, a, u, b, v, c, w, rfl, ⟨hp1, hp2, hp3⟩, T, q⟩ := h
  refine ⟨_, PSs.nox (C8.pss_cut (ps_asg (pe_tup (pa_cons (pv 0) (pa_cons (pv 1) (pa_cons (pv 2) pa_nil)))) (pg_tup rfl (pgs_cons (pg_tup rfl (pgs_cons (pg_name (i := 3) scNeedSquare.nd rfl (.inl rfl)) (pgs_cons (pg_name (i := 4) scNeedSquare.nd rfl (.inl rfl)) pgs_nil))) (pgs_cons (pg_tup rfl (pgs_cons (pg_name (i := 5) scNeedSquare.nd rfl (.inl rfl)) (pgs_cons (pg_name (i := 6) scNeedSquare.nd rfl (.inl rfl)) pgs_nil))) (pgs_cons (pg_tup rfl (pgs_cons (pg_name (i := 7) scNeedSquare.nd rfl (.inl rfl)) (pgs_cons (pg_name (i := 8) scNeedSquare.nd rfl (.inl rfl)) pgs_nil))) pgs_nil)))))
      (pss_one (ps_if (PW.pt (pw_or (pt_not (pt_val (pe_call GCJ hr (by rfl) gCJ kCJ bCJ .nil pass0 (pa_cons (pv 3) (pa_cons (pv 5) (pa_cons (pv 7) pa_nil)))))) (pw_or1 (pt_cmpR op_ne (pe_op op_add (pe_op op_add (pv 4) (pv 6)) (pv 8)) pe_int (nomark _))))) pss_never pss_nil))), ?_⟩
  refine ⟨fun σ H' => σ = [some (.ref p1), some (.ref p2), some (.ref p3), some (.int a), some (.int u), some (.int b), some (.int v), some (.int c), some (.int w)] ∧ Same H H', ?_, fun σ H1 hM => ?_⟩
  · refine ⟨_, rfl, _, rfl, _, rfl, by show 3 ≤ sizeLine; decide, fun l hl => ?_⟩
    have s2 := same_upd (o := .tup [.ref p1, .ref p2, .ref p3]) hl
    exact ⟨l, _, rfl, SqT.of upd_same, rfl, _, _, rfl, p1, _, rfl, SqT.of (s2 _ _ hp1), rfl, _, _, rfl, _, _, rfl, rfl, _, _, rfl, p2, _, rfl, SqT.of (s2 _ _ hp2), rfl, _, _, rfl, _, _, rfl, rfl, _, _, rfl, p3, _, rfl, SqT.of (s2 _ _ hp3), rfl, _, _, rfl, _, _, rfl, rfl, rfl, rfl, s2⟩
  obtain ⟨rfl, t1⟩ := hM
  refine ⟨_, rfl, _, rfl, _, rfl, a, b, c, rfl, true, by rw [T.j], iteF ?_⟩
  refine ⟨_, rfl, _, rfl, _, _, rfl, rfl, _, rfl, _, _, rfl, rfl, rfl, false, ?_, iteF (q H1 t1)⟩
  show V.bl (!decide (V.int (u + v + w) = V.int 0)) = V.bl false
  rw [T.z, decide_eq_true rfl]
  rfl
def spSquareWith : Sp := fun vs H Q _ => ∃ (p1 p2 p3 : Addr) (a u b v c w : Int), vs = [.ref p1, .ref p2, .ref p3] ∧ Prs3 H p1 p2 p3 a u b v c w ∧ ∀ t H', Same H H' → SqA H' t (sqF (sqN a u b v c w)) → Q (.ref t) H'
abbrev nSquareWith : List Str := ["one", "other", "third", "a", "u", "b", "v", "c", "w"]
theorem scSquareWith : FnScope nSquareWith ["one", "other", "third"] (defScope sSquareWith) := ⟨rfl, rfl, rfl, by decide +kernel, rfl, by decide +kernel, by decide +kernel⟩
set_option maxHeartbeats 0 in
theorem ok_squareWith (F : FnP K "square_with" sSquareWith f fd) : FnOk P w K mg base CX0 1 f fd ["one", "other", "third"] spSquareWith := by
  refine F.ok scSquareWith (fun vs H Q E h => ?_) (fun cdv Ar outer s H vs Q E hr h => ?_)
  · obtain ⟨_, _, _, _, _, _, _, _, _, rfl, _⟩ := h
    rfl
  obtain ⟨p1, p2, p3, a, u, b, v, c, w, rfl, ⟨hp1, hp2, hp3⟩, q⟩ := h
  refine ⟨_, PSs.nox (C8.pss_cut (ps_asg (pe_tup (pa_cons (pv 0) (pa_cons (pv 1) (pa_cons (pv 2) pa_nil)))) (pg_tup rfl (pgs_cons (pg_tup rfl (pgs_cons (pg_name (i := 3) scSquareWith.nd rfl (.inl rfl)) (pgs_cons (pg_name (i := 4) scSquareWith.nd rfl (.inl rfl)) pgs_nil))) (pgs_cons (pg_tup rfl (pgs_cons (pg_name (i := 5) scSquareWith.nd rfl (.inl rfl)) (pgs_cons (pg_name (i := 6) scSquareWith.nd rfl (.inl rfl)) pgs_nil))) (pgs_cons (pg_tup rfl (pgs_cons (pg_name (i := 7) scSquareWith.nd rfl (.inl rfl)) (pgs_cons (pg_name (i := 8) scSquareWith.nd rfl (.inl rfl)) pgs_nil))) pgs_nil)))))
      (pss_one (ps_ret (pe_tup (pa_cons (pe_tup (pa_cons (pe_op op_fdiv (pe_op op_sub (pe_op op_add (pv 5) (pv 7)) (pv 3)) pe_int) (pa_cons (pe_op op_fdiv (pe_op op_sub (pe_op op_add (pv 7) (pv 3)) (pv 5)) pe_int) (pa_cons (pe_op op_fdiv (pe_op op_sub (pe_op op_add (pv 3) (pv 5)) (pv 7)) pe_int) pa_nil)))) (pa_cons (pe_tup (pa_cons (pe_op op_fdiv (pe_op op_sub (pv 3) (pv 4)) pe_int) (pa_cons (pe_op op_fdiv (pe_op op_sub (pv 5) (pv 6)) pe_int) (pa_cons (pe_op op_fdiv (pe_op op_sub (pv 7) (pv 8)) pe_int) pa_nil)))) (pa_cons (pe_tup (pa_cons (pe_op op_fdiv (pe_op op_add (pv 3) (pv 4)) pe_int) (pa_cons (pe_op op_fdiv (pe_op op_add (pv 5) (pv 6)) pe_int) (pa_cons (pe_op op_fdiv (pe_op op_add (pv 7) (pv 8)) pe_int) pa_nil)))) pa_nil))))))), ?_⟩
  refine ⟨fun σ H' => σ = [some (.ref p1), some (.ref p2), some (.ref p3), some (.int a), some (.int u), some (.int b), some (.int v), some (.int c), some (.int w)] ∧ Same H H', ?_, fun σ H1 hM => ?_⟩
  · refine ⟨_, rfl, _, rfl, _, rfl, by show 3 ≤ sizeLine; decide, fun l hl => ?_⟩
    have s2 := same_upd (o := .tup [.ref p1, .ref p2, .ref p3]) hl
    exact ⟨l, _, rfl, SqT.of upd_same, rfl, _, _, rfl, p1, _, rfl, SqT.of (s2 _ _ hp1), rfl, _, _, rfl, _, _, rfl, rfl, _, _, rfl, p2, _, rfl, SqT.of (s2 _ _ hp2), rfl, _, _, rfl, _, _, rfl, rfl, _, _, rfl, p3, _, rfl, SqT.of (s2 _ _ hp3), rfl, _, _, rfl, _, _, rfl, rfl, rfl, rfl, s2⟩
  obtain ⟨rfl, t1⟩ := hM
  have dv : ∀ i : Int, CDiv i 2 := fun i => ⟨by decide, by decide⟩
  refine ⟨_, rfl, _, rfl, _, _, rfl, rfl, _, rfl, _, _, rfl, rfl, _, _, rfl, rfl, dv _, ?_⟩
  refine ⟨_, rfl, _, rfl, _, _, rfl, rfl, _, rfl, _, _, rfl, rfl, _, _, rfl, rfl, dv _, ?_⟩
  refine ⟨_, rfl, _, rfl, _, _, rfl, rfl, _, rfl, _, _, rfl, rfl, _, _, rfl, rfl, dv _, by show 3 ≤ sizeLine; decide, fun r0 h0 => ?_⟩
  refine ⟨_, rfl, _, rfl, _, _, rfl, rfl, _, _, rfl, rfl, dv _, ?_⟩
  refine ⟨_, rfl, _, rfl, _, _, rfl, rfl, _, _, rfl, rfl, dv _, ?_⟩
  refine ⟨_, rfl, _, rfl, _, _, rfl, rfl, _, _, rfl, rfl, dv _, by show 3 ≤ sizeLine; decide, fun r1 h1 => ?_⟩
  refine ⟨_, rfl, _, rfl, _, _, rfl, rfl, _, _, rfl, rfl, dv _, ?_⟩
  refine ⟨_, rfl, _, rfl, _, _, rfl, rfl, _, _, rfl, rfl, dv _, ?_⟩
  refine ⟨_, rfl, _, rfl, _, _, rfl, rfl, _, _, rfl, rfl, dv _, by show 3 ≤ sizeLine; decide, fun r2 h2 => ?_⟩
  refine ⟨by show 3 ≤ sizeLine; decide, fun t ht => ?_⟩
  have z0 := same_upd (o := .tup [.int ((b + c - a) / 2), .int ((c + a - b) / 2), .int ((a + b - c) / 2)]) h0
  have z1 := same_upd (o := .tup [.int ((a - u) / 2), .int ((b - v) / 2), .int ((c - w) / 2)]) h1
  have z2 := same_upd (o := .tup [.int ((a + u) / 2), .int ((b + v) / 2), .int ((c + w) / 2)]) h2
  have zt := same_upd (o := .tup [.ref r0, .ref r1, .ref r2]) ht
  exact q t _ ((((t1.trans z0).trans z1).trans z2).trans zt) ⟨r0, r1, r2, upd_same, zt _ _ (z2 _ _ (z1 _ _ upd_same)), zt _ _ (z2 _ _ upd_same), zt _ _ upd_same⟩
def spSquareOf : Sp := fun vs H Q _ => ∃ (p1 p2 p3 : Addr) (a u b v c w : Int), vs = [.ref p1, .ref p2, .ref p3] ∧ Prs3 H p1 p2 p3 a u b v c w ∧ Tri a u b v c w ∧ ∀ t H', Same H H' → SqA H' t (sqF (sqN a u b v c w)) → Q (.ref t) H'
abbrev nSquareOf : List Str := ["one", "other", "third"]
theorem scSquareOf : FnScope nSquareOf ["one", "other", "third"] (defScope sSquareOf) := ⟨rfl, rfl, rfl, by decide +kernel, rfl, by decide +kernel, by decide +kernel⟩
theorem ok_squareOf {fN fS fW : Addr} {fdN fdS fdW : FuncData} (F : FnP K "square_of" sSquareOf f fd)
    (GNP : FnOk P w K mg base CX0 4 fN fdN ["things"] spNeedPairs) (bNP : L2.Binds K fdN ["things"] []) (kNP : PySem.W.keepIn K (.ref fN) = true) (gNP : mg "need_pairs" = some (.ref fN))
    (GNS : FnOk P w K mg base CX0 3 fS fdS ["one", "other", "third"] spNeedSquare) (bNS : L2.Binds K fdS ["one", "other", "third"] []) (kNS : PySem.W.keepIn K (.ref fS) = true) (gNS : mg "need_square" = some (.ref fS))
    (GSW : FnOk P w K mg base CX0 1 fW fdW ["one", "other", "third"] spSquareWith) (bSW : L2.Binds K fdW ["one", "other", "third"] []) (kSW : PySem.W.keepIn K (.ref fW) = true) (gSW : mg "square_with" = some (.ref fW)) : FnOk P w K mg base CX0 5 f fd ["one", "other", "third"] spSquareOf := by
  refine F.ok scSquareOf (fun vs H Q E h => ?_) (fun cdv Ar outer s H vs Q E hr h => ?_)
  · obtain ⟨_, _, _, _, _, _, _, _, _, rfl, _⟩ := h
    rfl
  obtain ⟨p1, p2, p3, a, u, b, v, c, w, rfl, hP, T, q⟩ := h
  have hr1 := hr.mono (j := 1) (by decide)
  have hr3 := hr.mono (j := 3) (by decide)
  have hr4 := hr
  refine ⟨_, PSs.nox (C8.pss_cut (ps_expr (pe_call GNP hr4 (by rfl) gNP kNP bNP .nil pass0 (pa_cons (pe_lst (pa_cons (pv 0) (pa_cons (pv 1) (pa_cons (pv 2) pa_nil)))) pa_nil)))
      (C8.pss_cut (ps_expr (pe_call GNS hr3 (by rfl) gNS kNS bNS .nil pass0 (pa_cons (pv 0) (pa_cons (pv 1) (pa_cons (pv 2) pa_nil)))))
      (pss_one (ps_ret (pe_call GSW hr1 (by rfl) gSW kSW bSW .nil pass0 (pa_cons (pv 0) (pa_cons (pv 1) (pa_cons (pv 2) pa_nil)))))))), ?_⟩
  refine ⟨fun σ G => σ = [some (.ref p1), some (.ref p2), some (.ref p3)] ∧ Same H G, ?_, fun σ G hh => ?_⟩
  · refine ⟨_, rfl, _, rfl, _, rfl, by show 3 ≤ sizeLine; decide, fun l hl => ?_⟩
    have sl := same_upd (o := .lst [.ref p1, .ref p2, .ref p3]) hl
    refine ⟨l, [p1, p2, p3], [(a, u), (b, v), (c, w)], rfl, upd_same, ⟨sl _ _ hP.1, sl _ _ hP.2.1, sl _ _ hP.2.2, trivial⟩, fun x hx => ?_, fun H' s' => ⟨rfl, sl.trans s'⟩⟩
    simp only [List.mem_cons, List.not_mem_nil, or_false] at hx
    rcases hx with rfl | rfl | rfl
    · exact T.p1
    · exact T.p2
    · exact T.p3
  obtain ⟨rfl, s1⟩ := hh
  refine ⟨fun σ G2 => σ = [some (.ref p1), some (.ref p2), some (.ref p3)] ∧ Same G G2, ⟨_, rfl, _, rfl, _, rfl, p1, p2, p3, a, u, b, v, c, w, rfl, hP.same s1, T, fun H' s' => ⟨rfl, s'⟩⟩, fun σ G2 hh => ?_⟩
  obtain ⟨rfl, s2⟩ := hh
  exact ⟨_, rfl, _, rfl, _, rfl, p1, p2, p3, a, u, b, v, c, w, rfl, hP.same (s1.trans s2), fun t H' s' ht => q t H' ((s1.trans s2).trans s') ht⟩
end
end TC
namespace TC
open PySem PySem.Spec PyProof.Rows L2 TCA TCX
/-! ### K17LA: _law_square, _law_flip, _law_orders -/
theorem rows_snoc {G : Hp} {D l : Addr} {cs : List Addr} {xs : List V} {R : Nat → List V} {o : HO} (hD : G D = some (.lst xs)) (h : ∀ (j : Nat) c, cs[j]? = some c → G c = some (.tup (R j))) (hl : G l = some (.tup (R cs.length))) : ∀ (j : Nat) c, (cs ++ [l])[j]? = some c → (upd G D o) c = some (.tup (R j)) := fun j c hj => by
  have k : ∀ {a : Addr} {zs : List V}, G a = some (.tup zs) → (upd G D o) a = some (.tup zs) := fun {a zs} e => by
    rw [upd_ne fun z => by rw [z, hD] at e; cases e]
    exact e
  by_cases z : j < cs.length
  · rw [List.getElem?_append_left z] at hj
    exact k (h j c hj)
  · have jl : j < (cs ++ [l]).length := (List.getElem?_eq_some_iff.mp hj).1
    rw [List.length_append] at jl
    have ej : j = cs.length := by
      have : ([l] : List Addr).length = 1 := rfl
      omega
    rw [ej, List.getElem?_append_right (Nat.le_refl _), Nat.sub_self] at hj
    cases hj
    rw [ej]
    exact k hl
theorem sq_rows {G : Hp} {t : Addr} {cs : List Addr} {S : Nat → Nat → Int} (l3 : cs.length = 3) (ht : G t = some (.tup (cs.map V.ref))) (h : ∀ (j : Nat) c, cs[j]? = some c → G c = some (.tup (rowV S j))) : SqA G t S := by
  match cs, l3, ht, h with
  | [c0, c1, c2], _, ht, h => exact ⟨c0, c1, c2, ht, h 0 c0 rfl, h 1 c1 rfl, h 2 c2 rfl⟩
def OrdsAt (H : Hp) (L : Addr) : Prop := ∃ rs : List Addr, H L = some (.lst (rs.map V.ref)) ∧ rs.length = 6 ∧ ∀ (i : Nat) r o, rs[i]? = some r → lordL[i]? = some o → ∃ u : Addr, H r = some (.tup [.ref u, .int (o.2 : Int)]) ∧ H u = some (.tup [.int (o.1.getD 0 0 : Nat), .int (o.1.getD 1 0 : Nat), .int (o.1.getD 2 0 : Nat)])
theorem OrdsAt.same {H H' : Hp} {L : Addr} (h : OrdsAt H L) (s : Same H H') : OrdsAt H' L := by
  obtain ⟨rs, h1, h2, h3⟩ := h
  refine ⟨rs, s _ _ h1, h2, fun i r o e1 e2 => ?_⟩
  obtain ⟨u, g1, g2⟩ := h3 i r o e1 e2
  exact ⟨u, s _ _ g1, s _ _ g2⟩
section
variable {P : Program} {w : World} {K : PySem.W.Frag} {mg : Str → Option Value} {base : Heap} {f : Addr} {fd : FuncData}
def spOrdersL : Sp := fun vs H Q _ => vs = [] ∧ ∀ L H', Same H H' → H L = none → OrdsAt H' L → Q (.ref L) H'
theorem scOrdersL : FnScope [] [] (defScope sOrdersL) := ⟨rfl, rfl, rfl, by decide +kernel, rfl, by decide +kernel, by decide +kernel⟩
theorem ok_ordersL (F : FnP K "_law_orders" sOrdersL f fd) : FnOk P w K mg base CX0 1 f fd [] spOrdersL := by
  refine F.ok scOrdersL (fun vs H Q E h => ?_) (fun cdv Ar outer s H vs Q E hr h => ?_)
  · obtain ⟨rfl, _⟩ := h
    rfl
  obtain ⟨rfl, q⟩ := h
  refine ⟨_, PSs.nox (pss_one (ps_ret (pe_lst (pa_cons (pe_tup (pa_cons (pe_tup (pa_cons pe_int (pa_cons pe_int (pa_cons pe_int pa_nil)))) (pa_cons pe_int pa_nil))) (pa_cons (pe_tup (pa_cons (pe_tup (pa_cons pe_int (pa_cons pe_int (pa_cons pe_int pa_nil)))) (pa_cons pe_int pa_nil))) (pa_cons (pe_tup (pa_cons (pe_tup (pa_cons pe_int (pa_cons pe_int (pa_cons pe_int pa_nil)))) (pa_cons pe_int pa_nil))) (pa_cons (pe_tup (pa_cons (pe_tup (pa_cons pe_int (pa_cons pe_int (pa_cons pe_int pa_nil)))) (pa_cons pe_int pa_nil))) (pa_cons (pe_tup (pa_cons (pe_tup (pa_cons pe_int (pa_cons pe_int (pa_cons pe_int pa_nil)))) (pa_cons pe_int pa_nil))) (pa_cons (pe_tup (pa_cons (pe_tup (pa_cons pe_int (pa_cons pe_int (pa_cons pe_int pa_nil)))) (pa_cons pe_int pa_nil))) pa_nil))))))))), ?_⟩
  refine ⟨by show 3 ≤ sizeLine; decide, fun a1 h1 => ⟨by show 2 ≤ sizeLine; decide, fun b1 g1 => ⟨by show 3 ≤ sizeLine; decide, fun a2 h2 => ⟨by show 2 ≤ sizeLine; decide, fun b2 g2 => ⟨by show 3 ≤ sizeLine; decide, fun a3 h3 => ⟨by show 2 ≤ sizeLine; decide, fun b3 g3 => ⟨by show 3 ≤ sizeLine; decide, fun a4 h4 => ⟨by show 2 ≤ sizeLine; decide, fun b4 g4 => ⟨by show 3 ≤ sizeLine; decide, fun a5 h5 => ⟨by show 2 ≤ sizeLine; decide, fun b5 g5 => ⟨by show 3 ≤ sizeLine; decide, fun a6 h6 => ⟨by show 2 ≤ sizeLine; decide, fun b6 g6 => ⟨by show 6 ≤ sizeLine; decide, fun L hL => ?_⟩⟩⟩⟩⟩⟩⟩⟩⟩⟩⟩⟩⟩
  have s1 := same_upd (o := .tup [V.int 0, .int 1, .int 2]) h1
  have t1 := same_upd (o := .tup [V.ref a1, .int 0]) g1
  have s2 := same_upd (o := .tup [V.int 1, .int 0, .int 2]) h2
  have t2 := same_upd (o := .tup [V.ref a2, .int 1]) g2
  have s3 := same_upd (o := .tup [V.int 0, .int 2, .int 1]) h3
  have t3 := same_upd (o := .tup [V.ref a3, .int 1]) g3
  have s4 := same_upd (o := .tup [V.int 2, .int 1, .int 0]) h4
  have t4 := same_upd (o := .tup [V.ref a4, .int 1]) g4
  have s5 := same_upd (o := .tup [V.int 1, .int 2, .int 0]) h5
  have t5 := same_upd (o := .tup [V.ref a5, .int 0]) g5
  have s6 := same_upd (o := .tup [V.int 2, .int 0, .int 1]) h6
  have t6 := same_upd (o := .tup [V.ref a6, .int 0]) g6
  have sL := same_upd (o := .lst [V.ref b1, .ref b2, .ref b3, .ref b4, .ref b5, .ref b6]) hL
  have c6 := sL
  have d6 := t6.trans c6
  have c5 := s6.trans d6
  have d5 := t5.trans c5
  have c4 := s5.trans d5
  have d4 := t4.trans c4
  have c3 := s4.trans d4
  have d3 := t3.trans c3
  have c2 := s3.trans d3
  have d2 := t2.trans c2
  have c1 := s2.trans d2
  have d1 := t1.trans c1
  have sA := s1.trans d1
  have hLn : H L = none := by
    cases e : H L with
    | none => rfl
    | some o =>
      have := (s1.trans (t1.trans (s2.trans (t2.trans (s3.trans (t3.trans (s4.trans (t4.trans (s5.trans (t5.trans (s6.trans t6))))))))))) _ _ e
      rw [this] at hL
      cases hL
  refine q L _ sA hLn ⟨[b1, b2, b3, b4, b5, b6], upd_same, rfl, fun i r o e1 e2 => ?_⟩
  match i, e1, e2 with
  | 0, e1, e2 =>
    cases e1
    cases e2
    exact ⟨a1, c1 _ _ upd_same, d1 _ _ upd_same⟩
  | 1, e1, e2 =>
    cases e1
    cases e2
    exact ⟨a2, c2 _ _ upd_same, d2 _ _ upd_same⟩
  | 2, e1, e2 =>
    cases e1
    cases e2
    exact ⟨a3, c3 _ _ upd_same, d3 _ _ upd_same⟩
  | 3, e1, e2 =>
    cases e1
    cases e2
    exact ⟨a4, c4 _ _ upd_same, d4 _ _ upd_same⟩
  | 4, e1, e2 =>
    cases e1
    cases e2
    exact ⟨a5, c5 _ _ upd_same, d5 _ _ upd_same⟩
  | 5, e1, e2 =>
    cases e1
    cases e2
    exact ⟨a6, c6 _ _ upd_same, d6 _ _ upd_same⟩
  | i + 6, e1, e2 => cases e1
/-! ### _law_flip -/
def spFlipL : Sp := fun vs H Q _ => ∃ (a : Addr) (S : Nat → Nat → Int), vs = [.ref a] ∧ SqA H a S ∧ ∀ b H', Same H H' → SqA H' b (fun x y => S y x) → Q (.ref b) H'
abbrev nFlipL : List Str := ["_law_square_here", "_law_line", "_law_k"]
theorem scFlipL : FnScope nFlipL ["_law_square_here"] (defScope sFlipL) := ⟨rfl, rfl, rfl, by decide +kernel, rfl, by decide +kernel, by decide +kernel⟩
abbrev scFlipX : Scope := { kind := .function, names := [(".0", .local), ("_law_k", .cell), ("tuple", .globalImplicit), ("_law_square_here", .cell)], isGenerator := false, isCoroutine := false }
theorem ok_flipL (F : FnP K "_law_flip" sFlipL f fd) (gtuple : mg "tuple" = none) (grange : mg "range" = none) : FnOk P w K mg base CX0 1 f fd ["_law_square_here"] spFlipL := by
  refine F.ok scFlipL (fun vs H Q E h => ?_) (fun cdv Ar outer s H vs Q E hr h => ?_)
  · obtain ⟨_, _, rfl, _⟩ := h
    rfl
  obtain ⟨a, S, rfl, hS, q⟩ := h
  refine ⟨_, PSs.nox (pss_one (ps_ret (pe_callTy call_tuple_of (by rfl) gtuple (by decide +kernel) (pa_cons (pe_lc (own := [("_law_k", 2)]) (g := gName 2) (tt := tYes) (te := tCB (rTupOf K) (tCons (tLc (iTup K (tVar 0)) (gName 1) tYes (tOp (rIxT K) (tVar 1) (tVar 2)) [1]) tNil)) (by rfl) scFlipL.nd (pi_range1 (by rfl) grange (pa_cons pe_int pa_nil))
          (blkOk_by (N := nFlipL) (sc := defScope sFlipL) (by decide +kernel)) (fun _ _ _ _ _ => pg_name (i := 2) scFlipL.nd rfl (.inr rfl)) (fun _ _ _ _ _ => pts_nil) (fun _ _ _ _ _ => (pe_callTy call_tuple_of (by rfl) gtuple (by decide +kernel) (pa_cons (pe_lc (own := [("_law_line", 1)]) (g := gName 1) (tt := tYes) (te := (tOp (rIxT K) (tVar 1) (tVar 2))) (by rfl) scFlipL.nd (pi_tup (pv 0))
          (blkOk_by (N := nFlipL) (sc := scFlipX) (by decide +kernel)) (fun _ _ _ _ _ => pg_name (i := 1) scFlipL.nd rfl (.inl rfl)) (fun _ _ _ _ _ => pts_nil) (fun _ _ _ _ _ => (pe_ix ix_tup (pv 1) (pv 2) (fun _ _ => rfl)))) pa_nil)))) pa_nil)))), ?_⟩
  obtain ⟨r, hr0, hrow⟩ := hS.get
  refine ⟨3, rfl, by decide, by decide, fun D hD => lc_range (lo := 0) (n := 3) (fun k G => Same H G ∧ ∃ cs : List Addr, G D = some (.lst (cs.map V.ref)) ∧ cs.length = k ∧ ∀ (j : Nat) c, cs[j]? = some c → G c = some (.tup (rowV (fun x y => S y x) j))) ⟨same_upd hD, [], upd_same, rfl, fun j c h => by simp at h⟩ (fun k G hk hP => ?_) (fun G hP => ?_)⟩
  · obtain ⟨sG, cs, hcs, lcs, hR⟩ := hP
    refine ⟨rfl, ?_⟩
    refine ⟨_, rfl, a, rfl, ⟨_, SqT.of (sG _ _ hr0)⟩, fun D2 hD2 => lc_tup (xs := [.ref (r 0), .ref (r 1), .ref (r 2)]) (fun m G2 => Same G G2 ∧ G2 D2 = some (.lst ((rowV (fun x y => S y x) k).take m))) ⟨same_upd hD2, upd_same⟩ (fun m G2 _ hP => SqT.of (hP.1 _ _ (sG _ _ hr0))) (fun m x G2 hx hP => ?_) (fun G2 hP => ?_)⟩
    · obtain ⟨s2, h2⟩ := hP
      obtain ⟨m3, rfl⟩ : m < 3 ∧ x = .ref (r m) := match m, hx with
        | 0, h => ⟨by decide, (Option.some.inj h).symm⟩
        | 1, h => ⟨by decide, (Option.some.inj h).symm⟩
        | 2, h => ⟨by decide, (Option.some.inj h).symm⟩
        | m + 3, h => by cases h
      have ix : atI (rowV S m) (0 + (k : Int)) = some (.int (S m k)) := by
        rw [Int.zero_add]
        exact at3 (fun n => .int (S m n)) hk
      refine ⟨rfl, ?_⟩
      refine ⟨_, rfl, _, rfl, r m, _, _, _, rfl, rfl, SqT.of (s2 _ _ (sG _ _ (hrow m m3))), ix, _, h2, ?_, same_at s2 hD2, ?_⟩
      · exact Nat.lt_of_le_of_lt (List.length_take_le _ _) (by show m < sizeLine; rw [sizeLine_eq]; omega)
      · rw [upd_same]
        exact congrArg (fun z => some (HO.lst z)) (take3 (fun n => V.int (S n k)) m3).symm
    · obtain ⟨s2, h2⟩ := hP
      refine ⟨D2, _, rfl, .inl ⟨SqL.of h2, fun l hl => ?_⟩⟩
      have s3 := same_upd (o := .tup ((rowV (fun x y => S y x) k).take 3)) hl
      have hcs3 := s3 _ _ (s2 _ _ hcs)
      refine ⟨_, hcs3, ?_, same_at (sG.trans (s2.trans s3)) hD, cs ++ [l], ?_, ?_, ?_⟩
      · rw [List.length_map, sizeLine_eq]
        omega
      · rw [upd_same, List.map_append]
        rfl
      · rw [List.length_append, lcs]
        rfl
      · exact rows_snoc (R := rowV fun x y => S y x) hcs3 (fun j c e => s3 _ _ (s2 _ _ (hR j c e))) (by rw [lcs]; exact upd_same)
  · obtain ⟨sG, cs, hcs, lcs, hR⟩ := hP
    refine ⟨D, _, rfl, .inl ⟨SqL.of hcs, fun l hl => ?_⟩⟩
    have s3 := same_upd (o := .tup (cs.map V.ref)) hl
    exact q l _ (sG.trans s3) (sq_rows lcs upd_same fun j c e => s3 _ _ (hR j c e))
/-! ### _law_square -/
def spSquareL : Sp := fun vs H Q _ => ∃ (t : Addr) (a u b v c w : Int), vs = [.ref t] ∧ ThreeAt H t (a, u) (b, v) (c, w) ∧ ∀ t' H', Same H H' → SqA H' t' (sqF (sqN a u b v c w)) → Q (.ref t') H'
abbrev nSquareL : List Str := ["_law_pairs_here", "_law_a", "_law_u", "_law_b", "_law_v", "_law_c", "_law_w", "_law_first"]
theorem scSquareL : FnScope nSquareL ["_law_pairs_here"] (defScope sSquareL) := ⟨rfl, rfl, rfl, by decide +kernel, rfl, by decide +kernel, by decide +kernel⟩
set_option maxHeartbeats 0 in
theorem ok_squareL (F : FnP K "_law_square" sSquareL f fd) : FnOk P w K mg base CX0 1 f fd ["_law_pairs_here"] spSquareL := by
  refine F.ok scSquareL (fun vs H Q E h => ?_) (fun cdv Ar outer s H vs Q E hr h => ?_)
  · obtain ⟨_, _, _, _, _, _, _, rfl, _⟩ := h
    rfl
  obtain ⟨t, a, u, b, v, c, w, rfl, ⟨p1, p2, p3, ht, hp1, hp2, hp3⟩, q⟩ := h
  refine ⟨_, PSs.nox (C8.pss_cut (ps_asg (pv 0) (pg_tup rfl (pgs_cons (pg_tup rfl (pgs_cons (pg_name (i := 1) scSquareL.nd rfl (.inl rfl)) (pgs_cons (pg_name (i := 2) scSquareL.nd rfl (.inl rfl)) pgs_nil))) (pgs_cons (pg_tup rfl (pgs_cons (pg_name (i := 3) scSquareL.nd rfl (.inl rfl)) (pgs_cons (pg_name (i := 4) scSquareL.nd rfl (.inl rfl)) pgs_nil))) (pgs_cons (pg_tup rfl (pgs_cons (pg_name (i := 5) scSquareL.nd rfl (.inl rfl)) (pgs_cons (pg_name (i := 6) scSquareL.nd rfl (.inl rfl)) pgs_nil))) pgs_nil)))))
      (C8.pss_cut (ps_set (i := 7) scSquareL.nd rfl (.inl rfl) (pe_tup (pa_cons (pe_op op_fdiv (pe_op op_sub (pe_op op_add (pv 3) (pv 5)) (pv 1)) pe_int) (pa_cons (pe_op op_fdiv (pe_op op_sub (pe_op op_add (pv 5) (pv 1)) (pv 3)) pe_int) (pa_cons (pe_op op_fdiv (pe_op op_sub (pe_op op_add (pv 1) (pv 3)) (pv 5)) pe_int) pa_nil)))))
      (pss_one (ps_ret (pe_tup (pa_cons (pv 7) (pa_cons (pe_tup (pa_cons (pe_op op_fdiv (pe_op op_sub (pv 1) (pv 2)) pe_int) (pa_cons (pe_op op_fdiv (pe_op op_sub (pv 3) (pv 4)) pe_int) (pa_cons (pe_op op_fdiv (pe_op op_sub (pv 5) (pv 6)) pe_int) pa_nil)))) (pa_cons (pe_tup (pa_cons (pe_op op_fdiv (pe_op op_add (pv 1) (pv 2)) pe_int) (pa_cons (pe_op op_fdiv (pe_op op_add (pv 3) (pv 4)) pe_int) (pa_cons (pe_op op_fdiv (pe_op op_add (pv 5) (pv 6)) pe_int) pa_nil)))) pa_nil)))))))), ?_⟩
  refine ⟨fun σ G => σ = [some (.ref t), some (.int a), some (.int u), some (.int b), some (.int v), some (.int c), some (.int w), none] ∧ G = H, ⟨_, rfl, t, _, rfl, SqT.of ht, rfl, _, _, rfl, p1, _, rfl, SqT.of hp1, rfl, _, _, rfl, _, _, rfl, rfl, _, _, rfl, p2, _, rfl, SqT.of hp2, rfl, _, _, rfl, _, _, rfl, rfl, _, _, rfl, p3, _, rfl, SqT.of hp3, rfl, _, _, rfl, _, _, rfl, rfl, rfl, rfl, rfl⟩, fun σ G hh => ?_⟩
  obtain ⟨rfl, rfl⟩ := hh
  have dv : ∀ i : Int, CDiv i 2 := fun i => ⟨by decide, by decide⟩
  refine ⟨fun σ G2 => ∃ r0 : Addr, σ = [some (.ref t), some (.int a), some (.int u), some (.int b), some (.int v), some (.int c), some (.int w), some (.ref r0)] ∧ Same G G2 ∧ G2 r0 = some (.tup [.int ((b + c - a) / 2), .int ((c + a - b) / 2), .int ((a + b - c) / 2)]), ?_, fun σ G2 hh => ?_⟩
  · refine ⟨_, rfl, _, rfl, _, _, rfl, rfl, _, rfl, _, _, rfl, rfl, _, _, rfl, rfl, dv _, ?_⟩
    refine ⟨_, rfl, _, rfl, _, _, rfl, rfl, _, rfl, _, _, rfl, rfl, _, _, rfl, rfl, dv _, ?_⟩
    refine ⟨_, rfl, _, rfl, _, _, rfl, rfl, _, rfl, _, _, rfl, rfl, _, _, rfl, rfl, dv _, by show 3 ≤ sizeLine; decide, fun r0 h0 => ?_⟩
    exact ⟨r0, rfl, same_upd h0, upd_same⟩
  obtain ⟨r0, rfl, t1, hr0⟩ := hh
  refine ⟨_, rfl, _, rfl, _, rfl, _, _, rfl, rfl, _, _, rfl, rfl, dv _, ?_⟩
  refine ⟨_, rfl, _, rfl, _, _, rfl, rfl, _, _, rfl, rfl, dv _, ?_⟩
  refine ⟨_, rfl, _, rfl, _, _, rfl, rfl, _, _, rfl, rfl, dv _, by show 3 ≤ sizeLine; decide, fun r1 h1 => ?_⟩
  refine ⟨_, rfl, _, rfl, _, _, rfl, rfl, _, _, rfl, rfl, dv _, ?_⟩
  refine ⟨_, rfl, _, rfl, _, _, rfl, rfl, _, _, rfl, rfl, dv _, ?_⟩
  refine ⟨_, rfl, _, rfl, _, _, rfl, rfl, _, _, rfl, rfl, dv _, by show 3 ≤ sizeLine; decide, fun r2 h2 => ?_⟩
  refine ⟨by show 3 ≤ sizeLine; decide, fun t' ht' => ?_⟩
  have z1 := same_upd (o := .tup [.int ((a - u) / 2), .int ((b - v) / 2), .int ((c - w) / 2)]) h1
  have z2 := same_upd (o := .tup [.int ((a + u) / 2), .int ((b + v) / 2), .int ((c + w) / 2)]) h2
  have zt := same_upd (o := .tup [.ref r0, .ref r1, .ref r2]) ht'
  exact q t' _ (((t1.trans z1).trans z2).trans zt) ⟨r0, r1, r2, upd_same, zt _ _ (z2 _ _ (z1 _ _ hr0)), zt _ _ (z2 _ _ upd_same), zt _ _ upd_same⟩
end
end TC
namespace TC
open PySem PySem.Spec PyProof.Rows L2 TCA TCX
/-! ### K17LB: _law_forms -/
def bF (g : Nat → Int) (f : Bool) : Nat → Nat → Int := if f then fun x y => sqF g y x else sqF g
def f3 (g : Nat → Int) (f : Bool) (l c : List Nat × Nat) : Frm := outF g (formI (f, l, c))
def fR (g : Nat → Int) (f : Bool) (l : List Nat × Nat) : List Frm := lordL.map (f3 g f l)
def fT (g : Nat → Int) (f : Bool) : List Frm := lordL.flatMap (fR g f)
theorem frms_eq (g : Nat → Int) : frmsL g = [false, true].flatMap (fT g) := by
  unfold frmsL formsL
  rw [List.map_flatMap]
  refine congrArg (fun h => List.flatMap h [false, true]) (funext fun f => ?_)
  unfold fT
  rw [List.map_flatMap]
  refine congrArg (fun h => List.flatMap h lordL) (funext fun l => ?_)
  unfold fR
  rw [List.map_map]
  rfl
theorem f3_nine (g : Nat → Int) (f : Bool) (l c : List Nat × Nat) : nine (fun x y => bF g f (l.1.getD x 0) (c.1.getD y 0)) = (f3 g f l c).1 := by
  cases f <;> rfl
theorem f3_mark (g : Nat → Int) (f : Bool) (l c : List Nat × Nat) : mk17 (g 0 + g 1 + g 2) (l.2 + c.2) = (f3 g f l c).2 := (mk_mod _ _).symm
theorem lord_ok : ∀ o ∈ lordL, o.1.getD 0 0 < 3 ∧ o.1.getD 1 0 < 3 ∧ o.1.getD 2 0 < 3 ∧ o.2 ≤ 1 := by decide
theorem lord_lt {o : List Nat × Nat} (h : o ∈ lordL) {x : Nat} (hx : x < 3) : o.1.getD x 0 < 3 := by
  obtain ⟨h0, h1, h2, _⟩ := lord_ok o h
  have : x = 0 ∨ x = 1 ∨ x = 2 := by omega
  rcases this with rfl | rfl | rfl <;> assumption
section
variable {P : Program} {w : World} {K : PySem.W.Frag} {mg : Str → Option Value} {base : Heap} {f : Addr} {fd : FuncData}
def spFormsL : Sp := fun vs H Q _ => ∃ (a : Addr) (g : Nat → Int), vs = [.ref a] ∧ SqA H a (sqF g) ∧ ∀ (l : Addr) (us : List Addr) (H' : Hp), Same H H' → H l = none → H' l = some (.lst (us.map V.ref)) → FrmsAt H' us (frmsL g) → Q (.ref l) H'
abbrev nFormsL : List Str := ["_law_square_here", "_law_found", "_law_total", "_law_base", "_law_lines", "_law_odd_here", "_law_columns", "_law_more", "_law_fresh", "_law_j", "_law_i"]
theorem scFormsL : FnScope nFormsL ["_law_square_here"] (defScope sFormsL) := ⟨rfl, rfl, rfl, by decide +kernel, rfl, by decide +kernel, by decide +kernel⟩
abbrev scFormsX : Scope := { kind := .function, names := [(".0", .local), ("_law_i", .cell), ("tuple", .globalImplicit), ("_law_base", .cell), ("_law_columns", .cell)], isGenerator := false, isCoroutine := false }
set_option maxHeartbeats 0 in
theorem ok_formsL {fF fO : Addr} {fdF fdO : FuncData} (F : FnP K "_law_forms" sFormsL f fd)
    (GFl : FnOk P w K mg base CX0 1 fF fdF ["_law_square_here"] spFlipL) (bFl : L2.Binds K fdF ["_law_square_here"] []) (kFl : PySem.W.keepIn K (.ref fF) = true) (gFl : mg "_law_flip" = some (.ref fF))
    (GOr : FnOk P w K mg base CX0 1 fO fdO [] spOrdersL) (bOr : L2.Binds K fdO [] []) (kOr : PySem.W.keepIn K (.ref fO) = true) (gOr : mg "_law_orders" = some (.ref fO)) (gsum : mg "sum" = none) (gtuple : mg "tuple" = none) : FnOk P w K mg base CX0 2 f fd ["_law_square_here"] spFormsL := by
  refine F.ok scFormsL (fun vs H Q E h => ?_) (fun cdv Ar outer s H vs Q E hr h => ?_)
  · obtain ⟨_, _, rfl, _⟩ := h
    rfl
  obtain ⟨a, g, rfl, hS, q⟩ := h
  have hu := hr.units
  refine ⟨_, PSs.nox (C8.pss_cut (ps_par (i := 1) (j := 2) (by rfl) scFormsL.nd rfl rfl (by decide) rfl rfl (pa_cons (pe_lst pa_nil) (pa_cons (pe_callB (cr_sumT rfl) (by rfl) gsum (by decide +kernel) (pa_cons (pe_ix ix_tup (pv 0) pe_int (fun _ _ => rfl)) pa_nil)) pa_nil)) (by rfl))
      (C8.pss_cut (ps_for PassesOwn.never rfl (pi_tup (pe_tup (pa_cons (pv 0) (pa_cons (pe_call GFl hr (by rfl) gFl kFl bFl .nil pass0 (pa_cons (pv 0) pa_nil)) pa_nil)))) (pg_name (i := 3) scFormsL.nd rfl (.inr rfl))
        (pss_one (ps_for PassesOwn.never rfl (pi_list (pe_call0 GOr hr (by rfl) gOr kOr bOr .nil pass0)) (pg_tup rfl (pgs_cons (pg_name (i := 4) scFormsL.nd rfl (.inl rfl)) (pgs_cons (pg_name (i := 5) scFormsL.nd rfl (.inl rfl)) pgs_nil)))
        (pss_one (ps_for PassesOwn.never rfl (pi_list (pe_call0 GOr hr (by rfl) gOr kOr bOr .nil pass0)) (pg_tup rfl (pgs_cons (pg_name (i := 6) scFormsL.nd rfl (.inr rfl)) (pgs_cons (pg_name (i := 7) scFormsL.nd rfl (.inl rfl)) pgs_nil)))
        (C8.pss_cut (ps_set (i := 8) scFormsL.nd rfl (.inl rfl) (pe_callTy call_tuple_of (by rfl) gtuple (by decide +kernel) (pa_cons (pe_lc (own := [("_law_i", 10)]) (g := gName 10) (tt := tYes) (te := tCB (rTupOf K) (tCons (tLc (iTup K (tVar 6)) (gName 9) tYes (tOp (rIxT K) (tOp (rIxT K) (tVar 3) (tVar 10)) (tVar 9)) [9]) tNil)) (by rfl) scFormsL.nd (pi_tup (pv 4))
          (blkOk_by (N := nFormsL) (sc := defScope sFormsL) (by decide +kernel)) (fun _ _ _ _ _ => pg_name (i := 10) scFormsL.nd rfl (.inr rfl)) (fun _ _ _ _ _ => pts_nil) (fun _ _ _ _ _ => (pe_callTy call_tuple_of (by rfl) gtuple (by decide +kernel) (pa_cons (pe_lc (own := [("_law_j", 9)]) (g := gName 9) (tt := tYes) (te := (tOp (rIxT K) (tOp (rIxT K) (tVar 3) (tVar 10)) (tVar 9))) (by rfl) scFormsL.nd (pi_tup (pv 6))
          (blkOk_by (N := nFormsL) (sc := scFormsX) (by decide +kernel)) (fun _ _ _ _ _ => pg_name (i := 9) scFormsL.nd rfl (.inl rfl)) (fun _ _ _ _ _ => pts_nil) (fun _ _ _ _ _ => (pe_ix ix_tup (pe_ix ix_tup (pv 3) (pv 10) (fun _ _ => rfl)) (pv 9) (fun _ _ => rfl)))) pa_nil)))) pa_nil)))
      (pss_one (ps_expr (pe_bm PySem.F.plainAttrs_list PySem.F.slot_list_append PySem.F.type_list_append mt_append (pv 1) (pa_cons (pe_tup (pa_cons (pv 8) (pa_cons (pe_ix ix_list (pe_lst (pa_cons pe_int (pa_cons (pe_un un_neg pe_int) pa_nil))) (pe_op op_mod (pe_op op_mul (pv 2) (pe_op op_add (pv 5) (pv 7))) pe_int) (fun _ _ => rfl)) pa_nil))) pa_nil))))))))))
      (pss_one (ps_ret (pv 1))))), ?_⟩
  obtain ⟨r0, r1, r2, hr0, hrow0, _, _⟩ := id hS
  refine ⟨fun σ G => ∃ wl : Addr, σ = [some (.ref a), some (.ref wl), some (.int (g 0 + g 1 + g 2)), none, none, none, none, none, none, none, none] ∧ H wl = none ∧ G = upd H wl (.lst []), ?_, fun σ G hh => ?_⟩
  · refine ⟨by show 0 ≤ sizeLine; decide, fun wl hwl => ?_⟩
    have s1 := same_upd (o := .lst []) hwl
    refine ⟨_, rfl, a, _, 0, _, rfl, rfl, SqT.of (s1 _ _ hr0), atI_nat (j := 0) rfl, r0, [g 0, g 1, g 2], rfl, SqT.of (s1 _ _ hrow0), ?_⟩
    have es : ([g 0, g 1, g 2] : List Int).sum = g 0 + g 1 + g 2 := by
      show g 0 + (g 1 + (g 2 + 0)) = _
      omega
    rw [es]
    exact ⟨_, _, rfl, wl, rfl, hwl, rfl⟩
  obtain ⟨wl, rfl, hwl, rfl⟩ := hh
  have sm0 : ∀ {G : Hp}, SameBut wl (upd H wl (.lst [])) G → Same H G := fun {G} sb b o e => sb _ _ (fun z => by rw [z, hwl] at e; cases e) (same_upd hwl _ _ e)
  refine ⟨fun σ G => ∃ (us : List Addr) (v3 v4 v5 v6 v7 v8 v9 v10 : Option V), σ = [some (.ref a), some (.ref wl), some (.int (g 0 + g 1 + g 2)), v3, v4, v5, v6, v7, v8, v9, v10] ∧ Same H G ∧ G wl = some (.lst (us.map V.ref)) ∧ FrmsAt G us (frmsL g), ?_, fun σ G hh => ?_⟩
  rotate_left
  · obtain ⟨us, _, _, _, _, _, _, _, _, rfl, sG, hG, hF⟩ := hh
    exact ⟨_, rfl, q wl us G sG hwl hG hF⟩
  have z1 := same_upd (o := .lst []) hwl
  refine ⟨_, rfl, _, rfl, a, _, rfl, hS.same z1, fun b G1 s1 hb => ⟨by show 2 ≤ sizeLine; decide, fun tt htt => ?_⟩⟩
  have st := same_upd (o := .tup [.ref a, .ref b]) htt
  have hwl1 := st _ _ (s1 _ _ (upd_same (H := H) (a := wl) (o := .lst [])))
  have htt1 := upd_same (H := G1) (a := tt) (o := .tup [.ref a, .ref b])
  have bA : SqA (upd G1 tt (.tup [.ref a, .ref b])) a (bF g false) := (hS.same z1).same (s1.trans st)
  have bB : SqA (upd G1 tt (.tup [.ref a, .ref b])) b (bF g true) := hb.same st
  have sb0 : SameBut wl (upd H wl (.lst [])) (upd G1 tt (.tup [.ref a, .ref b])) := Same.but (s1.trans st)
  generalize upd G1 tt (.tup [.ref a, .ref b]) = G0 at hwl1 htt1 bA bB sb0 ⊢
  have ntt : tt ≠ wl := fun e => by rw [e, hwl1] at htt1; cases htt1
  -- squares stay while the list grows
  have sqB2 : ∀ {c : Addr} {S : Nat → Nat → Int} {G : Hp}, SqA G0 c S → SameBut wl G0 G → SqA G c S := fun {c S G} ⟨q0, q1, q2, h0, h1, h2, h3⟩ sb => by
    have k : ∀ {x : Addr} {zs : List V}, G0 x = some (.tup zs) → G x = some (.tup zs) := fun {x zs} e => sb _ _ (fun z => by rw [z, hwl1] at e; cases e) e
    exact ⟨q0, q1, q2, k h0, k h1, k h2, k h3⟩
  refine ⟨tt, rfl, ⟨_, SqT.of htt1⟩, for_tup (xs := [V.ref a, .ref b]) (fun k σ G => ∃ (us : List Addr) (v3 v4 v5 v6 v7 v8 v9 v10 : Option V), σ = [some (.ref a), some (.ref wl), some (.int (g 0 + g 1 + g 2)), v3, v4, v5, v6, v7, v8, v9, v10] ∧ SameBut wl G0 G ∧ G wl = some (.lst (us.map V.ref)) ∧ FrmsAt G us (([false, true].take k).flatMap (fT g)))
    ⟨[], none, none, none, none, none, none, none, none, rfl, (fun _ _ _ e => e), hwl1, FrmsAt.nil _⟩ (fun k σ G _ hP => ?_) (fun k x σ G hx hP => ?_) (fun σ G hP => ?_)⟩
  · obtain ⟨_, _, _, _, _, _, _, _, _, _, sb, _⟩ := hP
    exact SqT.of (sb _ _ ntt htt1)
  rotate_left
  · obtain ⟨us, v3, v4, v5, v6, v7, v8, v9, v10, rfl, sb, hG, hF⟩ := hP
    refine ⟨us, v3, v4, v5, v6, v7, v8, v9, v10, rfl, sm0 (sb0.trans sb), hG, ?_⟩
    rw [frms_eq]
    exact hF
  obtain ⟨us, v3, v4, v5, v6, v7, v8, v9, v10, rfl, sb, hG, hF⟩ := hP
  obtain ⟨fl, bs, rfl, hfl, hbs, tkT, k2⟩ : ∃ (fl : Bool) (bs : Addr), x = .ref bs ∧ [false, true][k]? = some fl ∧ SqA G0 bs (bF g fl) ∧ ([false, true].take (k + 1)).flatMap (fT g) = ([false, true].take k).flatMap (fT g) ++ fT g fl ∧ k < 2 := match k, hx with
    | 0, hx => ⟨false, a, (Option.some.inj hx).symm, rfl, bA, by simp, by decide⟩
    | 1, hx => ⟨true, b, (Option.some.inj hx).symm, rfl, bB, by simp, by decide⟩
    | k + 2, hx => by cases hx
  obtain ⟨WA, eWA⟩ : ∃ WA, ([false, true].take k).flatMap (fT g) = WA := ⟨_, rfl⟩
  rw [eWA] at hF tkT
  have lWA : WA.length ≤ 36 := by
    rw [← eWA]
    match k, k2 with
    | 0, _ => exact Nat.zero_le 36
    | 1, _ => exact Nat.le_refl 36
  refine ⟨rfl, fun L1 G2 s2 hL1 O1 => ?_⟩
  obtain ⟨rs1, hrs1, lrs1, ord1⟩ := id O1
  have hG2 := s2 _ _ hG
  have nL1 : L1 ≠ wl := fun e => by rw [e, hG] at hL1; cases hL1
  refine ⟨L1, rfl, ⟨_, SqL.of hrs1⟩, for_list (xs := rs1.map V.ref) (fun i σ G => ∃ (us : List Addr) (v4 v5 v6 v7 v8 v9 v10 : Option V), σ = [some (.ref a), some (.ref wl), some (.int (g 0 + g 1 + g 2)), some (.ref bs), v4, v5, v6, v7, v8, v9, v10] ∧ SameBut wl G2 G ∧ G wl = some (.lst (us.map V.ref)) ∧ FrmsAt G us (WA ++ (lordL.take i).flatMap (fR g fl)))
    ⟨us, v4, v5, v6, v7, v8, v9, v10, rfl, (fun _ _ _ e => e), hG2, by
      show FrmsAt G2 us (WA ++ [])
      rw [List.append_nil]
      exact hF.same s2⟩ (fun i σ G _ hP => ?_) (fun i x σ G hx hP => ?_) (fun σ G hP => ?_)⟩
  · obtain ⟨_, _, _, _, _, _, _, _, _, sb2, _⟩ := hP
    exact SqL.of (sb2 _ _ nL1 hrs1)
  rotate_left
  · obtain ⟨us, v4, v5, v6, v7, v8, v9, v10, rfl, sb2, hG, hF⟩ := hP
    refine ⟨us, _, v4, v5, v6, v7, v8, v9, v10, rfl, (sb.trans (Same.but s2)).trans sb2, hG, ?_⟩
    rw [List.length_map, lrs1] at hF
    rw [tkT]
    exact hF
  obtain ⟨us, v4, v5, v6, v7, v8, v9, v10, rfl, sb2, hGw, hF⟩ := hP
  rw [List.getElem?_map] at hx
  obtain ⟨u1, hu1, rfl⟩ := Option.map_eq_some_iff.mp hx
  have i6 : i < 6 := by
    have := (List.getElem?_eq_some_iff.mp hu1).1
    omega
  obtain ⟨o1, ho1⟩ : ∃ o, lordL[i]? = some o := ⟨_, List.getElem?_eq_getElem i6⟩
  have om1 := List.mem_of_getElem? ho1
  obtain ⟨y1, g1, g2⟩ := ord1 i u1 o1 hu1 ho1
  have tkB : (lordL.take (i + 1)).flatMap (fR g fl) = (lordL.take i).flatMap (fR g fl) ++ fR g fl o1 := by
    rw [List.take_add_one, ho1, List.flatMap_append]
    show _ ++ (fR g fl o1 ++ []) = _
    rw [List.append_nil]
  obtain ⟨WB, eWB⟩ : ∃ WB, WA ++ (lordL.take i).flatMap (fR g fl) = WB := ⟨_, rfl⟩
  rw [tkB, ← List.append_assoc, eWB]
  rw [eWB] at hF
  have lWB : WB.length ≤ 72 := by
    have h2 : ((lordL.take i).flatMap (fR g fl)).length = 6 * i := by
      rw [List.length_flatMap]
      have e : (lordL.take i).map (fun o => (fR g fl o).length) = (lordL.take i).map fun _ => 6 := List.map_congr_left fun o _ => rfl
      rw [e, List.map_const']
      have l : (lordL.take i).length = i := by
        rw [List.length_take]
        show min i 6 = i
        omega
      rw [l, List.sum_replicate_nat]
      omega
    rw [← eWB, List.length_append, h2]
    omega
  have kt2 : ∀ {x : Addr} {zs : List V}, G2 x = some (.tup zs) → ∀ {G : Hp}, SameBut wl G2 G → G x = some (.tup zs) := fun {x zs} e {G} sb => sb _ _ (fun z => by rw [z, s2 _ _ hG] at e; cases e) e
  have nu : SqT K G u1 [.ref y1, .int (o1.2 : Int)] := SqT.of (kt2 g1 sb2)
  refine ⟨u1, _, rfl, nu, rfl, _, _, rfl, _, _, rfl, rfl, ?_⟩
  refine ⟨rfl, fun L2 G3 s3 hL2 O2 => ?_⟩
  obtain ⟨rs2, hrs2, lrs2, ord2⟩ := id O2
  have hG3 := s3 _ _ hGw
  have nL2 : L2 ≠ wl := fun e => by rw [e, hGw] at hL2; cases hL2
  refine ⟨L2, rfl, ⟨_, SqL.of hrs2⟩, for_list (xs := rs2.map V.ref) (fun j σ G => ∃ (us : List Addr) (v6 v7 v8 v9 v10 : Option V), σ = [some (.ref a), some (.ref wl), some (.int (g 0 + g 1 + g 2)), some (.ref bs), some (.ref y1), some (.int (o1.2 : Int)), v6, v7, v8, v9, v10] ∧ SameBut wl G3 G ∧ G wl = some (.lst (us.map V.ref)) ∧ FrmsAt G us (WB ++ (lordL.take j).map (f3 g fl o1)))
    ⟨us, v6, v7, v8, v9, v10, rfl, (fun _ _ _ e => e), hG3, by
      show FrmsAt G3 us (WB ++ [])
      rw [List.append_nil]
      exact hF.same s3⟩ (fun j σ G _ hP => ?_) (fun j x σ G4 hx hP => ?_) (fun σ G hP => ?_)⟩
  · obtain ⟨_, _, _, _, _, _, _, sb3, _⟩ := hP
    exact SqL.of (sb3 _ _ nL2 hrs2)
  rotate_left
  · obtain ⟨us, v6, v7, v8, v9, v10, rfl, sb3, hG, hF⟩ := hP
    rw [List.length_map, lrs2] at hF
    exact ⟨us, _, _, v6, v7, v8, v9, v10, rfl, (sb2.trans (Same.but s3)).trans sb3, hG, hF⟩
  obtain ⟨us, v6, v7, v8, v9, v10, rfl, sb3, hG4, hF⟩ := hP
  rw [List.getElem?_map] at hx
  obtain ⟨u2, hu2, rfl⟩ := Option.map_eq_some_iff.mp hx
  have j6 : j < 6 := by
    have := (List.getElem?_eq_some_iff.mp hu2).1
    omega
  obtain ⟨o2, ho2⟩ : ∃ o, lordL[j]? = some o := ⟨_, List.getElem?_eq_getElem j6⟩
  have om2 := List.mem_of_getElem? ho2
  obtain ⟨y2, k1, k2'⟩ := ord2 j u2 o2 hu2 ho2
  have tkC : (lordL.take (j + 1)).map (f3 g fl o1) = (lordL.take j).map (f3 g fl o1) ++ [f3 g fl o1 o2] := by
    rw [List.take_add_one, ho2, List.map_append]
    rfl
  have kt3 : ∀ {x : Addr} {zs : List V}, G3 x = some (.tup zs) → ∀ {G : Hp}, SameBut wl G3 G → G x = some (.tup zs) := fun {x zs} e {G} sb => sb _ _ (fun z => by rw [z, hG3] at e; cases e) e
  have hy1 := kt3 (s3 _ _ (kt2 g2 sb2)) sb3
  have hy2 := kt3 k2' sb3
  have hBs : SqA G4 bs (bF g fl) := sqB2 hbs ((((sb.trans (Same.but s2)).trans sb2).trans (Same.but s3)).trans sb3)
  obtain ⟨r, hr0, hrow⟩ := hBs.get
  refine ⟨u2, _, rfl, SqT.of (kt3 k1 sb3), rfl, _, _, rfl, _, _, rfl, rfl, ?_⟩
  refine ⟨fun σ G5 => ∃ fr : Addr, σ = [some (.ref a), some (.ref wl), some (.int (g 0 + g 1 + g 2)), some (.ref bs), some (.ref y1), some (.int (o1.2 : Int)), some (.ref y2), some (.int (o2.2 : Int)), some (.ref fr), v9, v10] ∧ Same G4 G5 ∧ SqA G5 fr (fun x y => bF g fl (o1.1.getD x 0) (o2.1.getD y 0)), ?_, fun σ G5 hh => ?_⟩
  · refine ⟨_, rfl, y1, rfl, ⟨_, SqT.of hy1⟩, fun D hD => lc_tup (xs := [.int (o1.1.getD 0 0 : Nat), .int (o1.1.getD 1 0 : Nat), .int (o1.1.getD 2 0 : Nat)]) (fun m G => Same G4 G ∧ ∃ cs : List Addr, G D = some (.lst (cs.map V.ref)) ∧ cs.length = m ∧ ∀ (n : Nat) c, cs[n]? = some c → G c = some (.tup (rowV (fun x y => bF g fl (o1.1.getD x 0) (o2.1.getD y 0)) n))) ⟨same_upd hD, [], upd_same, rfl, fun n c h => by simp at h⟩ (fun m G _ hP => SqT.of (hP.1 _ _ hy1)) (fun m x G hx hP => ?_) (fun G hP => ?_)⟩
    · obtain ⟨sG, cs, hcs, lcs, hR⟩ := hP
      obtain ⟨m3, rfl⟩ : m < 3 ∧ x = .int (o1.1.getD m 0 : Nat) := match m, hx with
        | 0, h => ⟨by decide, (Option.some.inj h).symm⟩
        | 1, h => ⟨by decide, (Option.some.inj h).symm⟩
        | 2, h => ⟨by decide, (Option.some.inj h).symm⟩
        | m + 3, h => by cases h
      refine ⟨rfl, ?_⟩
      refine ⟨_, rfl, y2, rfl, ⟨_, SqT.of (sG _ _ hy2)⟩, fun D2 hD2 => lc_tup (xs := [.int (o2.1.getD 0 0 : Nat), .int (o2.1.getD 1 0 : Nat), .int (o2.1.getD 2 0 : Nat)]) (fun n G2 => Same G G2 ∧ G2 D2 = some (.lst ((rowV (fun x y => bF g fl (o1.1.getD x 0) (o2.1.getD y 0)) m).take n))) ⟨same_upd hD2, upd_same⟩ (fun n G2 _ hP => SqT.of (hP.1 _ _ (sG _ _ hy2))) (fun n x G2 hx hP => ?_) (fun G2 hP => ?_)⟩
      · obtain ⟨s2', h2⟩ := hP
        obtain ⟨n3, rfl⟩ : n < 3 ∧ x = .int (o2.1.getD n 0 : Nat) := match n, hx with
          | 0, h => ⟨by decide, (Option.some.inj h).symm⟩
          | 1, h => ⟨by decide, (Option.some.inj h).symm⟩
          | 2, h => ⟨by decide, (Option.some.inj h).symm⟩
          | n + 3, h => by cases h
        have m3' := lord_lt om1 m3
        have n3' := lord_lt om2 n3
        refine ⟨rfl, ?_⟩
        refine ⟨_, rfl, _, rfl, bs, _, _, _, rfl, rfl, SqT.of (s2' _ _ (sG _ _ hr0)), at3 (fun n => .ref (r n)) m3', ?_⟩
        refine ⟨_, rfl, r (o1.1.getD m 0), _, _, _, rfl, rfl, SqT.of (s2' _ _ (sG _ _ (hrow _ m3'))), at3 (fun n => .int (bF g fl (o1.1.getD m 0) n)) n3', _, h2, ?_, same_at s2' hD2, ?_⟩
        · exact Nat.lt_of_le_of_lt (List.length_take_le _ _) (by show n < sizeLine; rw [sizeLine_eq]; omega)
        · rw [upd_same]
          exact congrArg (fun z => some (HO.lst z)) (take3 (fun n => V.int (bF g fl (o1.1.getD m 0) (o2.1.getD n 0))) n3).symm
      · obtain ⟨s2', h2⟩ := hP
        refine ⟨D2, _, rfl, .inl ⟨SqL.of h2, fun l hl => ?_⟩⟩
        have s3' := same_upd (o := .tup ((rowV (fun x y => bF g fl (o1.1.getD x 0) (o2.1.getD y 0)) m).take 3)) hl
        have hcs3 := s3' _ _ (s2' _ _ hcs)
        refine ⟨_, hcs3, ?_, same_at (sG.trans (s2'.trans s3')) hD, cs ++ [l], ?_, ?_, ?_⟩
        · rw [List.length_map, sizeLine_eq]
          omega
        · rw [upd_same, List.map_append]
          rfl
        · rw [List.length_append, lcs]
          rfl
        · exact rows_snoc (R := rowV (fun x y => bF g fl (o1.1.getD x 0) (o2.1.getD y 0))) hcs3 (fun j c e => s3' _ _ (s2' _ _ (hR j c e))) (by rw [lcs]; exact upd_same)
    · obtain ⟨sG, cs, hcs, lcs, hR⟩ := hP
      refine ⟨D, _, rfl, .inl ⟨SqL.of hcs, fun l hl => ?_⟩⟩
      have s3' := same_upd (o := .tup (cs.map V.ref)) hl
      exact ⟨l, rfl, sG.trans s3', sq_rows lcs upd_same fun j c e => s3' _ _ (hR j c e)⟩
  obtain ⟨fr, rfl, s5, hfr⟩ := hh
  have o11 := (lord_ok o1 om1).2.2.2
  have o21 := (lord_ok o2 om2).2.2.2
  have hG5 := s5 _ _ hG4
  refine ⟨_, rfl, .inl ⟨rfl, _, SqL.of hG5⟩, _, rfl, _, rfl, by show 2 ≤ sizeLine; decide, fun ml hml => ?_⟩
  have s6 := same_upd (o := .lst [.int 1, .int (-1)]) hml
  obtain ⟨kk, ekk⟩ : ∃ kk : Int, (g 0 + g 1 + g 2) * ((o1.2 : Int) + (o2.2 : Int)) % 2 = kk := ⟨_, rfl⟩
  have k01 : kk = 0 ∨ kk = 1 := by omega
  have mk : atI [V.int 1, .int (-1)] kk = some (.int (mk17 (g 0 + g 1 + g 2) (o1.2 + o2.2))) := by
    have e : (g 0 + g 1 + g 2) * ((o1.2 + o2.2 : Nat) : Int) % 2 = kk := by rw [← ekk]; congr 1
    unfold mk17
    rw [e]
    rcases k01 with rfl | rfl
    · rw [if_neg (by decide)]
      exact atI_nat (j := 0) rfl
    · rw [if_pos rfl]
      exact atI_nat (j := 1) rfl
  refine ⟨_, rfl, _, rfl, _, rfl, _, _, rfl, rfl, _, _, rfl, rfl, .inr ⟨by omega, by omega⟩, _, _, rfl, rfl, (show (0 : Int) < 2 by decide), ml, _, _, _, rfl, rfl, SqL.of upd_same, by rw [ekk]; exact mk, ?_⟩
  refine ⟨by show 2 ≤ sizeLine; decide, fun t ht => ?_⟩
  have s7 := same_upd (o := .tup [.ref fr, .int (mk17 (g 0 + g 1 + g 2) (o1.2 + o2.2))]) ht
  have s57 := (s5.trans s6).trans s7
  have hG7 := s57 _ _ hG4
  have lus : us.length ≤ 80 := by
    rw [hF.len, List.length_append, List.length_map]
    have := List.length_take_le j lordL
    omega
  refine ⟨wl, _, .ref t, rfl, rfl, hG7, Nat.lt_of_le_of_lt (m := 100) (by rw [List.length_map]; omega) (by decide), us ++ [t], _, _, _, v9, v10, rfl, but_upd (sb3.trans (Same.but s57)), ?_, ?_⟩
  · rw [upd_same, List.map_append]
    rfl
  · rw [tkC, ← List.append_assoc]
    refine ((hF.same s57).snoc (y := f3 g fl o1 o2) ⟨fr, _, ?_, (hfr.same s6).same s7, f3_nine g fl o1 o2⟩).updL hG7
    rw [← f3_mark]
    exact upd_same
end
end TC
namespace TCX
open PySem PySem.Spec PyProof.Rows L2 HT
theorem same_new {H : Hp} {p : Addr} {o : HO} (h : H p = none) : Same H (upd H p o) := fun b x e => by
  rw [upd_ne (ne_of_none e h)]
  exact e
section
variable {X : Cx}
/-- t + u, whatever they hold: some tuple of both -/
def rCatS : R2 := fun x y H Q => ∃ a b xs ys, x = .ref a ∧ y = .ref b ∧ H a = some (.tup xs) ∧ H b = some (.tup ys) ∧ xs.length + ys.length ≤ sizeLine ∧ ∀ p H', Same H H' → H' p = some (.tup (xs ++ ys)) → Q (.ref p) H'
theorem op_catS : OpR X (binaryOp .Add) (rCatS) := by
  intro pins s σ H x y v u Q I rx ry h
  obtain ⟨a, b, xs, ys, rfl, rfl, ha, hb, hz, q⟩ := h
  refine op_catA pins s σ H _ _ v u Q I rx ry ⟨a, b, xs, ys, rfl, rfl, SqT.of ha, SqT.of hb, hz, fun e => ?_, fun _ e => ?_, fun _ _ p hp => ?_⟩
  · subst e
    exact q b H (fun _ _ z => z) hb
  · subst e
    exact q a H (fun _ _ z => z) (by rw [List.append_nil]; exact ha)
  · exact q p _ (same_new hp) upd_same
/-- t[lo:hi], whatever it is: some tuple of the part -/
def rSlS : V → Option Int → Option Int → Hp → VK → Prop := fun x lo hi H Q => ∃ a xs, x = .ref a ∧ H a = some (.tup xs) ∧ ∀ p H', Same H H' → H' p = some (.tup (cutV xs lo hi)) → Q (.ref p) H'
theorem sl_tupS : SlR X (rSlS) := by
  intro pins s σ H x v vl vu lo hi sl Q I rx hs pl pu h
  obtain ⟨a, xs, rfl, hx, q⟩ := h
  refine sl_tupA pins s σ H _ v vl vu lo hi sl Q I rx hs pl pu ⟨a, xs, rfl, SqT.of hx, fun e => ?_, fun _ p hp => ?_⟩
  · refine q a H (fun _ _ z => z) ?_
    unfold cutV
    rw [e.1, e.2]
    simpa using hx
  · exact q p _ (same_new hp) upd_same
end
theorem cut_take {xs : List V} {k : Nat} : cutV xs none (some (k : Int)) = xs.take k := by
  unfold cutV
  rw [sIx_nat, sIx_none]
  show xs.take (min k xs.length) = xs.take k
  by_cases h : k ≤ xs.length
  · rw [Nat.min_eq_left h]
  · rw [Nat.min_eq_right (by omega), List.take_length, List.take_of_length_le (by omega)]
theorem cut_drop {xs : List V} {k : Nat} : cutV xs (some (k : Int)) none = xs.drop k := by
  unfold cutV
  rw [sIx_nat, sIx_none]
  by_cases h : k ≤ xs.length
  · rw [Nat.min_eq_left h, List.take_of_length_le (by rw [List.length_drop]; omega)]
  · rw [Nat.min_eq_right (by omega), List.drop_length, List.drop_of_length_le (by omega)]
    exact List.take_nil
end TCX
namespace TC
open PySem PySem.Spec PyProof.Rows L2 TCA TCX
/-! ### K17LC: _law_least (made of K17PD by mk17lc.py) -/
theorem ints_dpL {K : PySem.W.Frag} {H : Hp} : ∀ l : List Int, DpAll K H (l.map V.int) (l.map PyData.int)
  | [] => .nil
  | x :: l => .cons (.int x) (ints_dpL l)
theorem ints_eqL : ∀ l m : List Int, PyData.eqvAll (l.map PyData.int) (m.map PyData.int) = decide (l = m)
  | [], [] => rfl
  | [], _ :: _ => rfl
  | _ :: _, [] => rfl
  | x :: l, y :: m => by
    show (decide (x = y) && PyData.eqvAll (l.map PyData.int) (m.map PyData.int)) = _
    rw [ints_eqL l m]
    simp only [List.cons.injEq, Bool.decide_and]
theorem ints_shL (l : List Int) : SeqAt.shaped (.list (l.map PyData.int)) = true := by
  have k1 : ∀ l : List Int, PyData.canLayAll0 (l.map PyData.int) = true := fun l => by
    induction l with
    | nil => rfl
    | cons x l ih =>
      show (true && PyData.canLayAll0 (l.map PyData.int)) = true
      rw [ih]
      rfl
  have k2 : ∀ l : List Int, PyData.depthAll (l.map PyData.int) = 0 := fun l => by
    induction l with
    | nil => rfl
    | cons x l ih =>
      show max 0 (PyData.depthAll (l.map PyData.int)) = 0
      rw [ih]
      rfl
  show (PyData.canLayAll0 (l.map PyData.int) && decide (PyData.depthAll (l.map PyData.int) + 1 ≤ 64)) = true
  rw [k1, k2]
  rfl
section
variable {P : Program} {w : World} {K : PySem.W.Frag} {mg : Str → Option Value} {base : Heap} {f : Addr} {fd : FuncData}
def spLeastL (K : PySem.W.Frag) : Sp := fun vs H Q _ => ∃ (a : Addr) (g : Nat → Int), vs = [.ref a] ∧ SqA H a (sqF g) ∧ ∀ (t u : Addr) (S : Nat → Nat → Int) (m : Int) (H' : Hp), Same H H' → H' t = some (.tup [.ref u, .int m]) → SqA H' u S → Lst (frmsL g) (nine S) m → Q (.ref t) H'
abbrev nLeastL : List Str := ["_law_square_here", "_law_forms_here", "_law_least_here", "_law_form", "_law_mark", "_law_marks"]
theorem scLeastL : FnScope nLeastL ["_law_square_here"] (defScope sLeastL) := ⟨rfl, rfl, rfl, by decide +kernel, rfl, by decide +kernel, by decide +kernel⟩
set_option maxHeartbeats 0 in
theorem ok_leastL {fF : Addr} {fdF : FuncData} (F : FnP K "_law_least" sLeastL f fd)
    (GFo : FnOk P w K mg base CX0 2 fF fdF ["_law_square_here"] spFormsL) (bFo : L2.Binds K fdF ["_law_square_here"] []) (kFo : PySem.W.keepIn K (.ref fF) = true) (gFo : mg "_law_forms" = some (.ref fF)) (gmin : mg "min" = none) (glen : mg "len" = none) : FnOk P w K mg base CX0 3 f fd ["_law_square_here"] (spLeastL K) := by
  refine F.ok scLeastL (fun vs H Q E h => ?_) (fun cdv Ar outer s H vs Q E hr h => ?_)
  · obtain ⟨_, _, rfl, _⟩ := h
    rfl
  obtain ⟨a, g, rfl, hS, q⟩ := h
  have hu := hr.units
  refine ⟨_, PSs.nox (C8.pss_cut (ps_set (i := 1) scLeastL.nd rfl (.inl rfl) (pe_call GFo hr (by rfl) gFo kFo bFo .nil pass0 (pa_cons (pv 0) pa_nil)))
      (C8.pss_cut (ps_set (i := 2) scLeastL.nd rfl (.inr rfl) (pe_callB (cr_minLD rfl hu) (by rfl) gmin (by decide +kernel) (pa_cons (pe_lc (own := [("_law_form", 3), ("_law_mark", 4)]) (g := gTup K 2 (gCons (gName 3) (gCons (gName 4) gNil))) (tt := tYes) (te := (tVar 3)) (by rfl) scLeastL.nd (pi_list (pv 1))
          (blkOk_by (N := nLeastL) (sc := defScope sLeastL) (by decide +kernel)) (fun _ _ _ _ _ => pg_tup rfl (pgs_cons (pg_name (i := 3) scLeastL.nd rfl (.inl rfl)) (pgs_cons (pg_name (i := 4) scLeastL.nd rfl (.inl rfl)) pgs_nil))) (fun _ _ _ _ _ => pts_nil) (fun _ _ _ _ _ => (pv 3))) pa_nil)))
      (C8.pss_cut (ps_setLc (i := 5) (own := [("_law_form", 3), ("_law_mark", 4)]) (g := gTup K 2 (gCons (gName 3) (gCons (gName 4) gNil))) (tt := (tTest (tOp (rEqD K) (tVar 3) (tVar 2)))) (te := (tVar 4)) (by rfl) scLeastL.nd rfl rfl (sw_true rfl rfl rfl (by decide +kernel)) (pi_list (pv 1))
          (blkOk_by (N := nLeastL) (sc := defScope sLeastL) (by decide +kernel)) (fun _ _ _ _ _ => pg_tup rfl (pgs_cons (pg_name (i := 3) scLeastL.nd rfl (.inl rfl)) (pgs_cons (pg_name (i := 4) scLeastL.nd rfl (.inl rfl)) pgs_nil))) (fun _ _ _ _ _ => pts_one (pt_cmpR (op_eqD hu) (pv 3) (pv 2) (nomark _))) (fun _ _ _ _ _ => (pv 4)))
      (pss_one (ps_ret (pe_tup (pa_cons (pv 2) (pa_cons (pe_ifExp (pt_cmpR (op_eqD hu) (pv 5) (pe_op op_rep (pe_slice sl_list (pv 5) po_none (po_some pe_int)) (pe_callB call_len_seq (by rfl) glen PySem.boot_len (pa_cons (pv 5) pa_nil))) (nomark _)) (pe_ix ix_list (pv 5) pe_int (fun _ _ => rfl)) pe_int) pa_nil)))))))), ?_⟩
  refine ⟨fun σ G => ∃ (D : Addr) (us : List Addr) (P : List Frm), σ = [some (.ref a), some (.ref D), none, none, none, none] ∧ Same H G ∧ G D = some (.lst (us.map V.ref)) ∧ FrmsAt G us P ∧ P.Perm (frmsL g), ⟨_, rfl, a, g, rfl, hS, fun l us H' s' hl hl' hF => ⟨l, us, _, rfl, s', hl', hF, List.Perm.refl _⟩⟩, fun σ G hh => ?_⟩
  obtain ⟨D, us, P, rfl, s1, hD, hF, pm⟩ := hh
  have len9 : ∀ y ∈ P, y.1.length = 9 := fun y hy => (frms_len g y (pm.mem_iff.mp hy)).1
  have one : ∀ y ∈ P, y.2 = 1 ∨ y.2 = -1 := fun y hy => (frms_len g y (pm.mem_iff.mp hy)).2
  have l72 : P.length = 72 := by rw [pm.length_eq]; rfl
  refine ⟨fun σ G2 => ∃ (i : Nat) (b u : Addr) (S : Nat → Nat → Int) (y : Frm), σ = [some (.ref a), some (.ref D), some (.ref b), none, none, none] ∧ Same G G2 ∧ P[i]? = some y ∧ SqA G2 b S ∧ nine S = y.1 ∧ ∀ z ∈ P, ltL z.1 y.1 = false, ?_, fun σ G2 hh => ?_⟩
  · obtain ⟨y0, P', eP⟩ : ∃ y0 P', P = y0 :: P' := by
      cases P with
      | nil => cases l72
      | cons y0 P' => exact ⟨y0, P', rfl⟩
    refine ⟨_, rfl, D, rfl, ⟨_, SqL.of hD⟩, fun D2 hD2 => lc_list (xs := us.map V.ref) (fun i G2 => Same G G2 ∧ ∃ bs : List Addr, G2 D2 = some (.lst (bs.map V.ref)) ∧ bs.length = i ∧ ∀ (j : Nat) b y, bs[j]? = some b → P[j]? = some y → ∃ S, SqA G2 b S ∧ nine S = y.1) ⟨same_upd hD2, [], upd_same, rfl, fun j b y h _ => by simp at h⟩ (fun i G2 _ hP => SqL.of (hP.1 _ _ hD)) (fun i x G2 hx hP => ?_) (fun G2 hP => ?_)⟩
    · obtain ⟨sG, bs, hG, lb, hB⟩ := hP
      rw [List.getElem?_map] at hx
      obtain ⟨u, hu', rfl⟩ := Option.map_eq_some_iff.mp hx
      have il : i < us.length := (List.getElem?_eq_some_iff.mp hu').1
      have lF := hF.len
      obtain ⟨y, hy⟩ : ∃ y, P[i]? = some y := ⟨_, List.getElem?_eq_getElem (by omega)⟩
      obtain ⟨b, S, h1, h2, h3⟩ := (hF.at_ i u y hu' hy).same sG
      refine ⟨u, _, rfl, SqT.of h1, rfl, _, _, rfl, _, _, rfl, rfl, rfl, ?_⟩
      refine ⟨_, rfl, _, hG, ?_, same_at sG hD2, bs ++ [b], ?_, ?_, fun j b' y' e1 e2 => ?_⟩
      · rw [List.length_map, lb]
        exact Nat.lt_of_le_of_lt (m := 72) (by omega) (by decide)
      · rw [upd_same, List.map_append]
        rfl
      · rw [List.length_append, lb]
        rfl
      · have kt : ∀ {c : Addr} {zs : List V} {o : HO}, G2 c = some (.tup zs) → (upd G2 D2 o) c = some (.tup zs) := fun {c zs o} e => by
          rw [upd_ne fun z => by rw [z, hG] at e; cases e]
          exact e
        have ks : ∀ {c : Addr} {S : Nat → Nat → Int} {o : HO}, SqA G2 c S → SqA (upd G2 D2 o) c S := fun {c S o} ⟨r0, r1, r2, g0, g1, g2, g3⟩ => ⟨r0, r1, r2, kt g0, kt g1, kt g2, kt g3⟩
        by_cases z : j < bs.length
        · rw [List.getElem?_append_left z] at e1
          obtain ⟨S', q1, q2⟩ := hB j b' y' e1 e2
          exact ⟨S', ks q1, q2⟩
        · have jl : j < (bs ++ [b]).length := (List.getElem?_eq_some_iff.mp e1).1
          rw [List.length_append] at jl
          have ej : j = bs.length := by
            have : ([b] : List Addr).length = 1 := rfl
            omega
          rw [ej, List.getElem?_append_right (Nat.le_refl _), Nat.sub_self] at e1
          cases e1
          rw [ej, lb, hy] at e2
          cases e2
          exact ⟨S, ks h2, h3⟩
    · obtain ⟨sG, bs, hG, lb, hB⟩ := hP
      have lF := hF.len
      rw [List.length_map, lF] at lb
      -- as values and data
      obtain ⟨zs, ez⟩ : ∃ zs : List VD, bs.zipWith (fun b (y : Frm) => (V.ref b, sqD y.1)) P = zs := ⟨_, rfl⟩
      have z1 : zs.map (·.1) = bs.map V.ref := by
        rw [← ez, List.map_zipWith]
        exact zipL lb
      have z2 : zs.map (·.2) = P.map fun y => sqD y.1 := by
        rw [← ez, List.map_zipWith]
        exact zipR lb
      have zd : ∀ v ∈ zs, Dp K G2 v.1 v.2 := fun v hv => by
        obtain ⟨j, hj⟩ := List.getElem?_of_mem hv
        have h1 : (zs.map (·.1))[j]? = some v.1 := by rw [List.getElem?_map, hj]; rfl
        have h2 : (zs.map (·.2))[j]? = some v.2 := by rw [List.getElem?_map, hj]; rfl
        rw [z1, List.getElem?_map] at h1
        rw [z2, List.getElem?_map] at h2
        obtain ⟨b, e1, e1'⟩ := Option.map_eq_some_iff.mp h1
        obtain ⟨y, e2, e2'⟩ := Option.map_eq_some_iff.mp h2
        obtain ⟨S, q1, q2⟩ := hB j b y e1 e2
        rw [← e1', ← e2', ← q2]
        exact q1.dp
      obtain ⟨z0, zs', e0⟩ : ∃ z0 zs', zs = z0 :: zs' := by
        cases zs with
        | nil =>
          rw [eP] at z2
          cases z2
        | cons z0 zs' => exact ⟨z0, zs', rfl⟩
      have dAll : DpAll K G2 (zs.map (·.1)) (zs.map (·.2)) := by
        have key : ∀ {l : List VD}, (∀ v ∈ l, Dp K G2 v.1 v.2) → DpAll K G2 (l.map (·.1)) (l.map (·.2)) := fun {l} => by
          induction l with
          | nil => exact fun _ => .nil
          | cons c l ih => exact fun h => .cons (h c List.mem_cons_self) (ih fun v hv => h v (List.mem_cons_of_mem _ hv))
        exact key zd
      have lzs : zs.length = P.length := by
        have := congrArg List.length z2
        rw [List.length_map, List.length_map] at this
        exact this
      refine ⟨D2, z0, zs', rfl, ?_, ?_, ?_, ?_, fun i v hv ev => ?_⟩
      · rw [← e0, z1]
        exact SqL.of hG
      · rw [← e0]
        exact dAll
      · rw [← e0, z2]
        refine ⟨fun d hd d' hd' => ?_, fun d hd => ?_⟩
        · obtain ⟨y, hy, rfl⟩ := List.mem_map.mp hd
          obtain ⟨y', hy', rfl⟩ := List.mem_map.mp hd'
          exact sq_alike (len9 y hy) (len9 y' hy')
        · obtain ⟨y, hy, rfl⟩ := List.mem_map.mp hd
          exact sq_some (len9 y hy)
      · rw [← e0, z2]
        exact Nat.le_trans (sq_none_depth len9) (by decide)
      · rw [← e0] at hv
        have h1 : (zs.map (·.1))[i]? = some v.1 := by rw [List.getElem?_map, hv]; rfl
        have h2 : (zs.map (·.2))[i]? = some v.2 := by rw [List.getElem?_map, hv]; rfl
        rw [z1, List.getElem?_map] at h1
        rw [z2, List.getElem?_map] at h2
        obtain ⟨b, e1, e1'⟩ := Option.map_eq_some_iff.mp h1
        obtain ⟨y, e2, e2'⟩ := Option.map_eq_some_iff.mp h2
        obtain ⟨S, q1, q2⟩ := hB i b y e1 e2
        have zz : z0.2 = sqD y0.1 ∧ zs'.map (·.2) = P'.map fun y => sqD y.1 := by
          rw [e0, eP] at z2
          have := List.cons.inj z2
          exact ⟨this.1, this.2⟩
        rw [← e1']
        refine ⟨i, b, b, S, y, rfl, sG, e2, q1, q2, min_forms eP len9 e2 ?_⟩
        rw [e2', ev, zz.1, zz.2]
  obtain ⟨i, b, u, S, y, rfl, s2, hy, hb, eS, low⟩ := hh
  refine ⟨fun σ G3 => ∃ (M : Addr), σ = [some (.ref a), some (.ref D), some (.ref b), none, none, some (.ref M)] ∧ Same G2 G3 ∧ G3 M = some (.lst ((marksL P y.1).map V.int)), ?_, fun σ G3 hh => ?_⟩
  · have ym := List.mem_of_getElem? hy
    have d2 := s2 _ _ hD
    have F2 := hF.same s2
    refine ⟨_, rfl, D, rfl, ⟨_, SqL.of d2⟩, fun M hM => lc_list (xs := us.map V.ref) (fun j G3 => Same G2 G3 ∧ G3 M = some (.lst ((marksL (P.take j) y.1).map V.int))) ⟨same_upd hM, upd_same⟩ (fun j G3 _ hP => SqL.of (hP.1 _ _ d2)) (fun j x G3 hx hP => ?_) (fun G3 hP => ?_)⟩
    · obtain ⟨sG, hG⟩ := hP
      rw [List.getElem?_map] at hx
      obtain ⟨u', hu', rfl⟩ := Option.map_eq_some_iff.mp hx
      have il : j < us.length := (List.getElem?_eq_some_iff.mp hu').1
      have lF := hF.len
      obtain ⟨z, hz⟩ : ∃ z, P[j]? = some z := ⟨_, List.getElem?_eq_getElem (by omega)⟩
      obtain ⟨b', S', h1, h2, h3⟩ := (F2.at_ j u' z hu' hz).same sG
      have zm := List.mem_of_getElem? hz
      have tk : P.take (j + 1) = P.take j ++ [z] := by
        rw [List.take_add_one, hz]
        rfl
      refine ⟨u', _, rfl, SqT.of h1, rfl, _, _, rfl, _, _, rfl, rfl, rfl, ?_⟩
      have dz : Dp K G3 (.ref b') (sqD z.1) := by rw [← h3]; exact h2.dp
      have dy : Dp K G3 (.ref b) (sqD y.1) := by rw [← eS]; exact (hb.same sG).dp
      refine ⟨_, rfl, _, rfl, _, _, dz, dy, sq_shaped (len9 z zm), sq_shaped (len9 y ym), decide (z.1 = y.1), congrArg V.bl (sq_eqv (len9 z zm) (len9 y ym)), ?_⟩
      by_cases e : z.1 = y.1
      · rw [decide_eq_true e]
        refine iteT ⟨_, rfl, _, hG, ?_, same_at sG hM, ?_⟩
        · unfold marksL
          rw [List.length_map, List.length_map]
          refine Nat.lt_of_le_of_lt (Nat.le_trans (List.length_filter_le _ _) (List.length_take_le' _ _)) ?_
          rw [l72]
          decide
        · rw [upd_same, tk, marks_snoc, if_pos e, List.map_append]
          rfl
      · rw [decide_eq_false e]
        refine iteF ⟨sG, ?_⟩
        rw [hG, tk, marks_snoc, if_neg e, List.append_nil]
    · obtain ⟨sG, hG⟩ := hP
      rw [List.length_map, hF.len, List.take_length] at hG
      exact ⟨M, rfl, sG, hG⟩
  obtain ⟨M, rfl, s3, hM⟩ := hh
  have ym := List.mem_of_getElem? hy
  have mem : y.2 ∈ marksL P y.1 := marks_mem.mpr ym
  have fl : ((marksL P y.1).map V.int).all flatV = true := by
    rw [List.all_map]
    exact List.all_eq_true.mpr fun _ _ => rfl
  have sq := (s1.trans s2).trans s3
  have fin : ∀ m : Int, Lst P y.1 m → ∀ (t : Addr), G3 t = none → Q (.ref t) (upd G3 t (.tup [.ref b, .int m])) := fun m hl t ht => by
    have st := same_upd (o := .tup [.ref b, .int m]) ht
    refine q t b S m _ (sq.trans st) upd_same ((hb.same s3).same st) ?_
    rw [eS]
    exact Lst.perm hl pm
  have hd : ∃ y', y' ∈ P ∧ y'.1 = y.1 := ⟨y, ym, rfl⟩
  obtain ⟨m, ms, em⟩ : ∃ m ms, marksL P y.1 = m :: ms := by
    cases e : marksL P y.1 with
    | nil => rw [e] at mem; cases mem
    | cons m ms => exact ⟨m, ms, rfl⟩
  rw [em] at hM
  have lm : ms.length < 72 := by
    have h1 : (marksL P y.1).length ≤ P.length := by
      unfold marksL
      rw [List.length_map]
      exact List.length_filter_le _ _
    rw [em, List.length_cons] at h1
    omega
  refine ⟨_, rfl, _, rfl, _, rfl, _, rfl, M, _, rfl, SqL.of hM, fun pA hpA => ?_⟩
  rw [show cutV ((m :: ms).map V.int) none (some 1) = [V.int m] from cut_take (k := 1)]
  have sA := same_upd (o := .lst [V.int m]) hpA
  refine ⟨_, rfl, M, _, rfl, .inl (SqL.of (sA _ _ hM)), ?_⟩
  refine ⟨pA, _, _, rfl, rfl, upd_same, by omega, by rw [List.length_map, List.length_cons]; omega, ?_, fun pB hpB => ?_⟩
  · rw [List.length_map, List.length_cons]
    exact Nat.le_trans (m := 100) (by show 1 * (((ms.length + 1 : Nat) : Int)).toNat ≤ 100; omega) (by decide)
  have rep : (List.replicate ((((m :: ms).map V.int).length : Nat) : Int).toNat [V.int m]).flatten = (List.replicate (ms.length + 1) m).map V.int := by
    rw [List.length_map, List.length_cons, Int.toNat_natCast, List.map_replicate]
    generalize ms.length + 1 = n
    induction n with
    | zero => rfl
    | succ n ih =>
      rw [List.replicate_succ, List.replicate_succ, List.flatten_cons, ih]
      rfl
  rw [rep]
  have sB := same_upd (o := .lst ((List.replicate (ms.length + 1) m).map V.int)) hpB
  refine ⟨_, _, .lst (SqL.of (sB _ _ (sA _ _ hM))) (ints_dpL _), .lst (SqL.of upd_same) (ints_dpL _), ints_shL _, ints_shL _, decide (m :: ms = List.replicate (ms.length + 1) m), congrArg V.bl (ints_eqL _ _), ?_⟩
  have sAB := sA.trans sB
  by_cases c : m :: ms = List.replicate (ms.length + 1) m
  · rw [decide_eq_true c]
    refine iteT ?_
    refine ⟨_, rfl, M, _, 0, .int m, rfl, rfl, SqL.of (sAB _ _ hM), atI_nat (j := 0) rfl, by show 2 ≤ sizeLine; decide, fun t ht => ?_⟩
    have st := same_upd (o := .tup [.ref b, .int m]) ht
    refine q t b S m _ ((sq.trans sAB).trans st) upd_same (((hb.same s3).same sAB).same st) ?_
    rw [eS]
    refine Lst.perm (lst_one hd low one (fun h => ?_) (by rw [em]; exact List.mem_cons_self)) pm
    rw [em, c] at h
    have h1 := (List.mem_replicate.mp h.1).2
    have h2 := (List.mem_replicate.mp h.2).2
    omega
  · rw [decide_eq_false c]
    refine iteF ?_
    refine ⟨by show 2 ≤ sizeLine; decide, fun t ht => ?_⟩
    have st := same_upd (o := .tup [.ref b, .int 0]) ht
    refine q t b S 0 _ ((sq.trans sAB).trans st) upd_same (((hb.same s3).same sAB).same st) ?_
    rw [eS]
    have pm1 : ∀ k ∈ m :: ms, k = 1 ∨ k = -1 := fun k hk => by
      rw [← em] at hk
      exact one _ (marks_mem.mp hk)
    have both : (1 : Int) ∈ marksL P y.1 ∧ (-1 : Int) ∈ marksL P y.1 := by
      rw [em]
      refine Classical.byContradiction fun no => c ?_
      have all : ∀ k ∈ m :: ms, k = m := fun k hk => by
        have hk1 := pm1 k hk
        have hm1 := pm1 m List.mem_cons_self
        refine Classical.byContradiction fun ne => no ?_
        rcases hk1 with rfl | rfl
        · rcases hm1 with rfl | rfl
          · exact absurd rfl ne
          · exact ⟨hk, List.mem_cons_self⟩
        · rcases hm1 with rfl | rfl
          · exact ⟨List.mem_cons_self, hk⟩
          · exact absurd rfl ne
      exact List.eq_replicate_iff.mpr ⟨rfl, all⟩
    exact Lst.perm (lst_both hd low both.1 both.2) pm
end
end TC
namespace TC
set_option exponentiation.threshold 2000
open PySem PySem.Spec PyProof.Rows L2 TCA TCX
/-! ### K17LD: _law_triple -/
theorem Tri.turn {a u b v c w : Int} (h : Tri a u b v c w) : Tri b v c w a u := ⟨h.p2, h.p3, h.p1, canB_iff.mpr (by have := canB_iff.mp h.j; omega), by have := h.z; omega⟩
section
variable {P : Program} {w : World} {K : PySem.W.Frag} {mg : Str → Option Value} {base : Heap} {f : Addr} {fd : FuncData}
def spTriple17 : Sp := fun vs H Q _ => ∃ (p c : Addr) (ms : List Int) (n h : Int), vs = [.ref p, .int h] ∧ PenAt H p c ms n ∧ 0 ≤ n ∧ n ≤ 700000 ∧ 0 ≤ h ∧ h ≤ 40 ∧
  ∀ (t : Addr) (a u b v d w n' : Int) H', Tri a u b v d w → ThreeAt H' t (a, u) (b, v) (d, w) → n ≤ n' → n' ≤ n + 10 → PenAt H' p c ms n' → SameBut p H H' → Q (.ref t) H'
abbrev nTriple17 : List Str := ["_law_pen_here", "_law_high", "_law_sizes_here", "_law_a", "_law_one", "_law_other_here", "_law_third_here", "_law_some", "_law_at"]
theorem scTriple17 : FnScope nTriple17 ["_law_pen_here", "_law_high"] (defScope sTriple17) := ⟨rfl, rfl, rfl, by decide +kernel, rfl, by decide +kernel, by decide +kernel⟩
set_option maxHeartbeats 0 in
theorem ok_triple17 {fD fS fP : Addr} {fdD fdS fdP : FuncData} (F : FnP K "_law_triple" sTriple17 f fd)
    (GD : FnOk P w K mg base CX0 1 fD fdD ["_law_pen_here", "_law_many"] spDraw) (bD : L2.Binds K fdD ["_law_pen_here", "_law_many"] []) (kD : PySem.W.keepIn K (.ref fD) = true) (gD : mg "_law_draw" = some (.ref fD))
    (GSz : FnOk P w K mg base CX0 3 fS fdS ["_law_pen_here", "_law_high"] spSizesL) (bSz : L2.Binds K fdS ["_law_pen_here", "_law_high"] []) (kSz : PySem.W.keepIn K (.ref fS) = true) (gSz : mg "_law_sizes" = some (.ref fS))
    (GPr : FnOk P w K mg base CX0 2 fP fdP ["_law_pen_here", "_law_sizes_here"] spPairs) (bPr : L2.Binds K fdP ["_law_pen_here", "_law_sizes_here"] []) (kPr : PySem.W.keepIn K (.ref fP) = true) (gPr : mg "_law_pairs" = some (.ref fP)) (gmin : mg "min" = none) (gtuple : mg "tuple" = none) : FnOk P w K mg base CX0 4 f fd ["_law_pen_here", "_law_high"] spTriple17 := by
  refine F.ok scTriple17 (fun vs H Q E h => ?_) (fun cdv Ar outer s H vs Q E hr h => ?_)
  · obtain ⟨_, _, _, _, _, rfl, _⟩ := h
    rfl
  obtain ⟨p, c, ms, n, h, rfl, hp, n0, n1, h0, h1, q⟩ := h
  have hr1 := hr.mono (j := 1) (by decide)
  have hr2 := hr.mono (j := 2) (by decide)
  have hr3 := hr
  refine ⟨_, PSs.nox (C8.pss_cut (ps_set (i := 2) scTriple17.nd rfl (.inl rfl) (pe_call GSz hr3 (by rfl) gSz kSz bSz .nil pass0 (pa_cons (pv 0) (pa_cons (pv 1) pa_nil))))
      (C8.pss_cut (ps_if (pt_cmpR op_eq (pe_call GD hr1 (by rfl) gD kD bD .nil pass0 (pa_cons (pv 0) (pa_cons pe_int pa_nil))) pe_int (nomark _)) (pss_cons (ps_set (i := 3) scTriple17.nd rfl (.inl rfl) (pe_call GD hr1 (by rfl) gD kD bD .nil pass0 (pa_cons (pv 0) (pa_cons (pe_op op_add (pv 1) pe_int) pa_nil))))
      (pss_one (ps_set (i := 2) scTriple17.nd rfl (.inl rfl) (pe_tup (pa_cons (pv 3) (pa_cons (pv 3) (pa_cons (pe_op op_mul pe_int (pe_call GD hr1 (by rfl) gD kD bD .nil pass0 (pa_cons (pv 0) (pa_cons (pe_op op_add (pe_callB (call_min2 rfl) (by rfl) gmin (by decide +kernel) (pa_cons (pv 3) (pa_cons (pe_op op_fdiv (pv 1) pe_int) pa_nil))) pe_int) pa_nil)))) pa_nil))))))) pss_nil)
      (C8.pss_cut (ps_asg (pe_call GPr hr2 (by rfl) gPr kPr bPr .nil pass0 (pa_cons (pv 0) (pa_cons (pv 2) pa_nil))) (pg_tup rfl (pgs_cons (pg_name (i := 4) scTriple17.nd rfl (.inl rfl)) (pgs_cons (pg_name (i := 5) scTriple17.nd rfl (.inl rfl)) (pgs_cons (pg_name (i := 6) scTriple17.nd rfl (.inl rfl)) pgs_nil)))))
      (C8.pss_cut (ps_if (PW.pt (pw_and (pt_cmpR op_eq (pe_call GD hr1 (by rfl) gD kD bD .nil pass0 (pa_cons (pv 0) (pa_cons pe_int pa_nil))) pe_int (nomark _)) (pw_and (pt_cmpR op_eq (pe_op op_mod (pe_ix ix_tup (pv 2) pe_int (fun _ _ => rfl)) pe_int) pe_int (nomark _)) (pw_and1 (pt_cmpR op_eq (pe_op op_mod (pe_ix ix_tup (pv 2) pe_int (fun _ _ => rfl)) pe_int) pe_int (nomark _)))))) (pss_one (ps_par3 (i := 4) (j := 5) (l := 6) rfl scTriple17.nd rfl rfl rfl (by decide) (by decide) (by decide) rfl rfl rfl (pa_cons (pe_tup (pa_cons (pe_ix ix_tup (pv 4) pe_int (fun _ _ => rfl)) (pa_cons pe_int pa_nil))) (pa_cons (pe_tup (pa_cons (pe_ix ix_tup (pv 5) pe_int (fun _ _ => rfl)) (pa_cons pe_int pa_nil))) (pa_cons (pe_tup (pa_cons (pe_ix ix_tup (pv 6) pe_int (fun _ _ => rfl)) (pa_cons pe_int pa_nil))) pa_nil))) (by rfl))) pss_nil)
      (C8.pss_cut (ps_set (i := 7) scTriple17.nd rfl (.inl rfl) (pe_lst (pa_cons (pv 4) (pa_cons (pv 5) (pa_cons (pe_tup (pa_cons (pe_ix ix_tup (pv 6) pe_int (fun _ _ => rfl)) (pa_cons (pe_op op_sub pe_int (pe_ix ix_tup (pv 6) pe_int (fun _ _ => rfl))) pa_nil))) pa_nil)))))
      (C8.pss_cut (ps_set (i := 8) scTriple17.nd rfl (.inl rfl) (pe_call GD hr1 (by rfl) gD kD bD .nil pass0 (pa_cons (pv 0) (pa_cons pe_int pa_nil))))
      (pss_one (ps_ret (pe_callTy call_tuple_of (by rfl) gtuple (by decide +kernel) (pa_cons (pe_op op_cat (pe_slice sl_list (pv 7) (po_some (pv 8)) po_none) (pe_slice sl_list (pv 7) po_none (po_some (pv 8)))) pa_nil)))))))))), ?_⟩
  -- the sizes
  refine ⟨fun σ G => ∃ (ts : Addr) (a b d n' : Int), σ = [some (.ref p), some (.int h), some (.ref ts), none, none, none, none, none, none] ∧ G ts = some (.tup [.int a, .int b, .int d]) ∧ 0 ≤ a ∧ a ≤ 40 ∧ 0 ≤ b ∧ b ≤ 40 ∧ 0 ≤ d ∧ d ≤ 40 ∧ fitsB a b d = true ∧ n ≤ n' ∧ n' ≤ n + 3 ∧ PenAt G p c ms n' ∧ SameBut p H G, ⟨_, rfl, _, rfl, p, c, ms, n, h, rfl, hp, n0, by omega, h0, h1, fun t a b d n' H' a0 a1 b0 b1 d0 d1 df ht x0 x1 pen sb => ⟨t, a, b, d, n', rfl, ht, a0, by omega, b0, by omega, d0, by omega, df, x0, x1, pen, sb⟩⟩, fun σ G hh => ?_⟩
  obtain ⟨ts, a, b, d, m1, rfl, hts, a0, a1, b0, b1, d0, d1, df, x0, x1, pen1, sb1⟩ := hh
  refine ⟨fun σ G => ∃ (ts : Addr) (a b d n' : Int) (v3 : Option V), σ = [some (.ref p), some (.int h), some (.ref ts), v3, none, none, none, none, none] ∧ G ts = some (.tup [.int a, .int b, .int d]) ∧ 0 ≤ a ∧ a ≤ 40 ∧ 0 ≤ b ∧ b ≤ 40 ∧ 0 ≤ d ∧ d ≤ 40 ∧ fitsB a b d = true ∧ n ≤ n' ∧ n' ≤ n + 6 ∧ PenAt G p c ms n' ∧ SameBut p H G, ?_, fun σ G hh => ?_⟩
  · refine ⟨_, rfl, p, c, ms, m1, 4, rfl, pen1, by omega, by omega, by decide, by decide, fun e n2 G1 e0 e1 y0 y1 q1 t1 => ?_⟩
    have hts1 := t1 _ _ (fun z => by
      obtain ⟨l, hl, _⟩ := pen1
      rw [z, hl] at hts
      cases hts) hts
    refine ⟨rfl, decide (e = 0), congrArg V.bl (dec_int _ _), ?_⟩
    by_cases z : e = 0
    · rw [decide_eq_true z]
      refine iteT ?_
      refine ⟨_, rfl, _, rfl, h, 1, rfl, rfl, p, c, ms, n2, h + 1, rfl, q1, by omega, by omega, by omega, lt_1000 (by omega), fun x n3 G2 x0' x1' y2 y3 q2 t2 => ?_⟩
      refine ⟨_, rfl, _, rfl, _, rfl, _, rfl, _, rfl, h, 2, rfl, rfl, ⟨by decide, by decide⟩, x, h / 2, rfl, _, 1, rfl, rfl, p, c, ms, n3, (if h / 2 < x then h / 2 else x) + 1, rfl, q2, by omega, by omega, by split <;> omega, lt_1000 (by split <;> omega), fun y n4 G3 y0' y1' y4 y5 q3 t3 => ?_⟩
      have y2b : 2 * y ≤ 2 * x ∧ 2 * y ≤ h := by
        split at y1' <;> omega
      refine ⟨2, y, rfl, rfl, .inl ⟨by decide, by decide⟩, by show 3 ≤ sizeLine; decide, fun t' ht' => ?_⟩
      have st := same_upd (o := .tup [.int x, .int x, .int (2 * y)]) ht'
      exact ⟨t', x, x, 2 * y, n4, _, rfl, upd_same, x0', by omega, x0', by omega, by omega, by omega, fits_iff.mpr (by omega), by omega, by omega, q3.same st, (((sb1.trans t1).trans t2).trans t3).trans (Same.but st)⟩
    · rw [decide_eq_false z]
      exact iteF ⟨ts, a, b, d, n2, none, rfl, hts1, a0, a1, b0, b1, d0, d1, df, by omega, by omega, q1, sb1.trans t1⟩
  clear hts a0 a1 b0 b1 d0 d1 df x0 x1 pen1 sb1 ts a b d m1
  obtain ⟨ts, a, b, d, m1, v3, rfl, hts, a0, a1, b0, b1, d0, d1, df, x0, x1, pen1, sb1⟩ := hh
  obtain ⟨f1, f2, f3, f4⟩ := fits_iff.mp df
  -- the pairs
  refine ⟨fun σ G => ∃ (q1 q2 q3 : Addr) (u v w n' : Int), σ = [some (.ref p), some (.int h), some (.ref ts), v3, some (.ref q1), some (.ref q2), some (.ref q3), none, none] ∧ G ts = some (.tup [.int a, .int b, .int d]) ∧ Prs3 G q1 q2 q3 a u b v d w ∧ PairP a u ∧ PairP b v ∧ PairP d w ∧ u + v = w ∧ n ≤ n' ∧ n' ≤ n + 8 ∧ PenAt G p c ms n' ∧ SameBut p H G, ?_, fun σ G hh => ?_⟩
  · refine ⟨_, rfl, _, rfl, p, c, ts, ms, m1, a, b, d, rfl, pen1, by omega, by omega, hts, a0, a1, b0, b1, d0, d1, df, fun t' u v w n' H' P1 P2 P3 e hT m0 m1' pen' sb' => ?_⟩
    obtain ⟨q1, q2, q3, g0, g1, g2, g3⟩ := hT
    have hts1 := sb' _ _ (fun z => by
      obtain ⟨l, hl, _⟩ := pen1
      rw [z, hl] at hts
      cases hts) hts
    exact ⟨t', _, rfl, SqT.of g0, rfl, _, _, rfl, _, _, rfl, _, _, rfl, rfl, q1, q2, q3, u, v, w, n', rfl, hts1, ⟨g1, g2, g3⟩, P1, P2, P3, e, by omega, by omega, pen', sb1.trans sb'⟩
  clear hts pen1 sb1 x0 x1 m1
  obtain ⟨q1, q2, q3, u, v, w, m1, rfl, hts, hQ, P1, P2, P3, e0, x0, x1, pen1, sb1⟩ := hh
  refine ⟨fun σ G => ∃ (q1 q2 q3 : Addr) (u v w n' : Int), σ = [some (.ref p), some (.int h), some (.ref ts), v3, some (.ref q1), some (.ref q2), some (.ref q3), none, none] ∧ Prs3 G q1 q2 q3 a u b v d w ∧ PairP a u ∧ PairP b v ∧ PairP d w ∧ u + v = w ∧ n ≤ n' ∧ n' ≤ n + 9 ∧ PenAt G p c ms n' ∧ SameBut p H G, ?_, fun σ G hh => ?_⟩
  · refine ⟨_, rfl, p, c, ms, m1, 4, rfl, pen1, by omega, by omega, by decide, by decide, fun e n2 G1 e0' e1 y0 y1 r1 t1 => ?_⟩
    have kp : ∀ {x : Addr} {zs : List V}, H = H → G x = some (.tup zs) → G1 x = some (.tup zs) := fun {x zs} _ ex => t1 _ _ (fun z => by
      obtain ⟨l, hl, _⟩ := pen1
      rw [z, hl] at ex
      cases ex) ex
    have hts1 := kp rfl hts
    have hQ1 : Prs3 G1 q1 q2 q3 a u b v d w := ⟨kp rfl hQ.1, kp rfl hQ.2.1, kp rfl hQ.2.2⟩
    have no : ∀ {σ : L2.St}, σ = [some (.ref p), some (.int h), some (.ref ts), v3, some (.ref q1), some (.ref q2), some (.ref q3), none, none] → ∃ (q1 q2 q3 : Addr) (u v w n' : Int), σ = [some (.ref p), some (.int h), some (.ref ts), v3, some (.ref q1), some (.ref q2), some (.ref q3), none, none] ∧ Prs3 G1 q1 q2 q3 a u b v d w ∧ PairP a u ∧ PairP b v ∧ PairP d w ∧ u + v = w ∧ n ≤ n' ∧ n' ≤ n + 9 ∧ PenAt G1 p c ms n' ∧ SameBut p H G1 := fun {σ} eσ => ⟨q1, q2, q3, u, v, w, n2, eσ, hQ1, P1, P2, P3, e0, by omega, by omega, r1, sb1.trans t1⟩
    refine ⟨rfl, decide (e = 0), congrArg V.bl (dec_int _ _), ?_⟩
    by_cases z : e = 0
    rotate_left
    · rw [decide_eq_false z]
      exact iteF (no rfl)
    rw [decide_eq_true z]
    refine iteT ?_
    refine ⟨_, rfl, ts, _, 0, _, rfl, rfl, SqT.of hts1, atI_nat (j := 0) rfl, a, 2, rfl, rfl, (show (0 : Int) < 2 by decide), rfl, decide (a % 2 = 0), congrArg V.bl (dec_int _ _), ?_⟩
    by_cases za : a % 2 = 0
    rotate_left
    · rw [decide_eq_false za]
      exact iteF (no rfl)
    rw [decide_eq_true za]
    refine iteT ?_
    refine ⟨_, rfl, ts, _, 1, _, rfl, rfl, SqT.of hts1, atI_nat (j := 1) rfl, b, 2, rfl, rfl, (show (0 : Int) < 2 by decide), rfl, decide (b % 2 = 0), congrArg V.bl (dec_int _ _), ?_⟩
    by_cases zb : b % 2 = 0
    rotate_left
    · rw [decide_eq_false zb]
      exact iteF (no rfl)
    rw [decide_eq_true zb]
    refine iteT ?_
    refine ⟨_, rfl, q1, _, 0, _, rfl, rfl, SqT.of hQ1.1, atI_nat (j := 0) rfl, by show 2 ≤ sizeLine; decide, fun z1 hz1 => ?_⟩
    have s1 := same_upd (o := .tup [.int a, .int 0]) hz1
    refine ⟨_, rfl, q2, _, 0, _, rfl, rfl, SqT.of (s1 _ _ hQ1.2.1), atI_nat (j := 0) rfl, by show 2 ≤ sizeLine; decide, fun z2 hz2 => ?_⟩
    have s2 := same_upd (o := .tup [.int b, .int 0]) hz2
    refine ⟨_, rfl, q3, _, 0, _, rfl, rfl, SqT.of (s2 _ _ (s1 _ _ hQ1.2.2)), atI_nat (j := 0) rfl, by show 2 ≤ sizeLine; decide, fun z3 hz3 => ?_⟩
    have s3 := same_upd (o := .tup [.int d, .int 0]) hz3
    exact ⟨_, _, _, rfl, z1, z2, z3, 0, 0, 0, n2, rfl, ⟨s3 _ _ (s2 _ _ upd_same), s3 _ _ upd_same, upd_same⟩, ⟨a0, a1, by omega, by omega, by omega⟩, ⟨b0, b1, by omega, by omega, by omega⟩, ⟨d0, d1, by omega, by omega, by omega⟩, rfl, by omega, by omega, r1.same ((s1.trans s2).trans s3), (sb1.trans t1).trans (Same.but ((s1.trans s2).trans s3))⟩
  clear hts pen1 sb1 x0 x1 m1 hQ P1 P2 P3 e0 q1 q2 q3 u v w
  obtain ⟨q1, q2, q3, u, v, w, m1, rfl, hQ, P1, P2, P3, e0, x0, x1, pen1, sb1⟩ := hh
  -- the list
  refine ⟨fun σ G2 => ∃ (l q4 : Addr), σ = [some (.ref p), some (.int h), some (.ref ts), v3, some (.ref q1), some (.ref q2), some (.ref q3), some (.ref l), none] ∧ Same G G2 ∧ G2 l = some (.lst [.ref q1, .ref q2, .ref q4]) ∧ Prs3 G2 q1 q2 q4 a u b v d (0 - w), ?_, fun σ G2 hh => ?_⟩
  · refine ⟨_, rfl, _, rfl, _, rfl, q3, _, 0, _, rfl, rfl, SqT.of hQ.2.2, atI_nat (j := 0) rfl, _, rfl, q3, _, 1, _, rfl, rfl, SqT.of hQ.2.2, atI_nat (j := 1) rfl, 0, w, rfl, rfl, by show 2 ≤ sizeLine; decide, fun q4 hq4 => ?_⟩
    have s4 := same_upd (o := .tup [.int d, .int (0 - w)]) hq4
    refine ⟨by show 3 ≤ sizeLine; decide, fun l hl => ?_⟩
    have sl := same_upd (o := .lst [.ref q1, .ref q2, .ref q4]) hl
    exact ⟨l, q4, rfl, s4.trans sl, upd_same, (s4.trans sl) _ _ hQ.1, (s4.trans sl) _ _ hQ.2.1, sl _ _ upd_same⟩
  obtain ⟨l, q4, rfl, s2, hl, hQ4⟩ := hh
  refine ⟨fun σ G3 => ∃ at_ n' : Int, σ = [some (.ref p), some (.int h), some (.ref ts), v3, some (.ref q1), some (.ref q2), some (.ref q3), some (.ref l), some (.int at_)] ∧ 0 ≤ at_ ∧ at_ < 3 ∧ n ≤ n' ∧ n' ≤ n + 10 ∧ PenAt G3 p c ms n' ∧ SameBut p G2 G3, ⟨_, rfl, p, c, ms, m1, 3, rfl, pen1.same s2, by omega, by omega, by decide, by decide, fun e n2 G3 e0' e1 y0 y1 r1 t1 => ⟨e, n2, rfl, e0', by omega, by omega, by omega, r1, t1⟩⟩, fun σ G3 hh => ?_⟩
  obtain ⟨at_, m2, rfl, k0, k3, y0, y1, pen3, t3⟩ := hh
  have pen2 := pen1.same s2
  have kl : G3 l = some (.lst [.ref q1, .ref q2, .ref q4]) := t3 _ _ (fun z => by
    obtain ⟨lf, hp', hc', hpc⟩ := pen2
    rw [z, hp'] at hl
    cases hl) hl
  have kp : ∀ {x : Addr} {zs : List V}, G2 x = some (.tup zs) → G3 x = some (.tup zs) := fun {x zs} ex => t3 _ _ (fun z => by
    obtain ⟨lf, hl', _⟩ := pen2
    rw [z, hl'] at ex
    cases ex) ex
  have g1 := kp hQ4.1
  have g2 := kp hQ4.2.1
  have g3 := kp hQ4.2.2
  have T : Tri a u b v d (0 - w) := ⟨P1, P2, ⟨d0, d1, by have := P3.hi; omega, by have := P3.lo; omega, by have := P3.ev; omega⟩, canB_iff.mpr (by omega), by omega⟩
  have sbF := (sb1.trans (Same.but s2)).trans t3
  refine ⟨_, rfl, _, rfl, at_, rfl, ?_⟩
  obtain ⟨k, rfl⟩ : ∃ k : Nat, at_ = (k : Int) := ⟨at_.toNat, by omega⟩
  refine ⟨l, _, rfl, SqL.of kl, fun pA hpA => ?_⟩
  rw [cut_drop (k := k)]
  have zA := same_upd (o := .lst (([V.ref q1, .ref q2, .ref q4]).drop k)) hpA
  refine ⟨_, rfl, _, rfl, _, rfl, l, _, rfl, SqL.of (zA _ _ kl), fun pB hpB => ?_⟩
  rw [cut_take (k := k)]
  have zB := same_upd (o := .lst (([V.ref q1, .ref q2, .ref q4]).take k)) hpB
  refine ⟨pA, pB, _, _, rfl, rfl, zB _ _ upd_same, upd_same, ?_, fun pC hpC => ?_⟩
  · rw [List.length_drop, List.length_take]
    exact Nat.le_trans (m := 6) (by show 3 - k + min k 3 ≤ 6; omega) (by decide)
  have zC := same_upd (o := .lst (([V.ref q1, .ref q2, .ref q4]).drop k ++ ([V.ref q1, .ref q2, .ref q4]).take k)) hpC
  refine ⟨pC, _, rfl, .inl ⟨SqL.of upd_same, fun t ht => ?_⟩⟩
  have zt := same_upd (o := .tup (([V.ref q1, .ref q2, .ref q4]).drop k ++ ([V.ref q1, .ref q2, .ref q4]).take k)) ht
  have zz := ((zA.trans zB).trans zC).trans zt
  have hT := upd_same (H := upd (upd (upd G3 pA (.lst (([V.ref q1, .ref q2, .ref q4]).drop k))) pB (.lst (([V.ref q1, .ref q2, .ref q4]).take k))) pC (.lst (([V.ref q1, .ref q2, .ref q4]).drop k ++ ([V.ref q1, .ref q2, .ref q4]).take k))) (a := t) (o := .tup (([V.ref q1, .ref q2, .ref q4]).drop k ++ ([V.ref q1, .ref q2, .ref q4]).take k))
  have fin : ∀ (x1 x2 x3 : Addr) (a' u' b' v' d' w' : Int), ([V.ref q1, .ref q2, .ref q4]).drop k ++ ([V.ref q1, .ref q2, .ref q4]).take k = [.ref x1, .ref x2, .ref x3] → Tri a' u' b' v' d' w' → G3 x1 = some (pairO (a', u')) → G3 x2 = some (pairO (b', v')) → G3 x3 = some (pairO (d', w')) → Q (.ref t) (upd (upd (upd (upd G3 pA (.lst (([V.ref q1, .ref q2, .ref q4]).drop k))) pB (.lst (([V.ref q1, .ref q2, .ref q4]).take k))) pC (.lst (([V.ref q1, .ref q2, .ref q4]).drop k ++ ([V.ref q1, .ref q2, .ref q4]).take k))) t (.tup (([V.ref q1, .ref q2, .ref q4]).drop k ++ ([V.ref q1, .ref q2, .ref q4]).take k))) := fun x1 x2 x3 a' u' b' v' d' w' e T' h1 h2 h3 => q t a' u' b' v' d' w' m2 _ T' ⟨x1, x2, x3, by rw [hT, e], zz _ _ h1, zz _ _ h2, zz _ _ h3⟩ y0 y1 (pen3.same zz) (sbF.trans (Same.but zz))
  have k3' : k = 0 ∨ k = 1 ∨ k = 2 := by omega
  rcases k3' with rfl | rfl | rfl
  · exact fin q1 q2 q4 a u b v d (0 - w) rfl T g1 g2 g3
  · exact fin q2 q4 q1 b v d (0 - w) a u rfl T.turn g2 g3 g1
  · exact fin q4 q1 q2 d (0 - w) a u b v rfl T.turn.turn g3 g1 g2
end
end TC
namespace TC
open PySem PySem.Spec PyProof.Rows L2 TCA TCX
/-! ### K17LE: forms of a square are squares; small things are shown -/
theorem nine_eq {S S' : Nat → Nat → Int} (h : nine S = nine S') : ∀ i, i < 3 → ∀ j, j < 3 → S i j = S' i j := by
  unfold nine at h
  simp only [List.cons.injEq, and_true] at h
  obtain ⟨h0, h1, h2, h3, h4, h5, h6, h7, h8⟩ := h
  intro i hi j hj
  have ci : i = 0 ∨ i = 1 ∨ i = 2 := by omega
  have cj : j = 0 ∨ j = 1 ∨ j = 2 := by omega
  rcases ci with rfl | rfl | rfl <;> rcases cj with rfl | rfl | rfl <;> assumption
theorem sqA_nine {H : Hp} {a : Addr} {S S' : Nat → Nat → Int} (h : SqA H a S) (e : nine S = nine S') : SqA H a S' := by
  have k := nine_eq e
  have row : ∀ i, i < 3 → rowV S i = rowV S' i := fun i hi => by
    unfold rowV
    rw [k i hi 0 (by decide), k i hi 1 (by decide), k i hi 2 (by decide)]
  obtain ⟨r0, r1, r2, h0, h1, h2, h3⟩ := h
  exact ⟨r0, r1, r2, h0, by rw [← row 0 (by decide)]; exact h1, by rw [← row 1 (by decide)]; exact h2, by rw [← row 2 (by decide)]; exact h3⟩
/-- all rows and columns come to J, nothing is below 0 -/
structure Mag (S : Nat → Nat → Int) (J : Int) : Prop where
  row : ∀ i, i < 3 → S i 0 + S i 1 + S i 2 = J
  col : ∀ j, j < 3 → S 0 j + S 1 j + S 2 j = J
  pos : ∀ i, i < 3 → ∀ j, j < 3 → 0 ≤ S i j
theorem Mag.of {S S' : Nat → Nat → Int} {J : Int} (h : Mag S J) (e : nine S = nine S') : Mag S' J := by
  have k := nine_eq e
  refine ⟨fun i hi => ?_, fun j hj => ?_, fun i hi j hj => ?_⟩
  · rw [← k i hi 0 (by decide), ← k i hi 1 (by decide), ← k i hi 2 (by decide)]
    exact h.row i hi
  · rw [← k 0 (by decide) j hj, ← k 1 (by decide) j hj, ← k 2 (by decide) j hj]
    exact h.col j hj
  · rw [← k i hi j hj]
    exact h.pos i hi j hj
theorem Mag.le {S : Nat → Nat → Int} {J : Int} (h : Mag S J) {i j : Nat} (hi : i < 3) (hj : j < 3) : S i j ≤ J := by
  have r := h.row i hi
  have p0 := h.pos i hi 0 (by decide)
  have p1 := h.pos i hi 1 (by decide)
  have p2 := h.pos i hi 2 (by decide)
  have cj : j = 0 ∨ j = 1 ∨ j = 2 := by omega
  rcases cj with rfl | rfl | rfl <;> omega
theorem lord_sum {o : List Nat × Nat} (h : o ∈ lordL) (g : Nat → Int) : g (o.1.getD 0 0) + g (o.1.getD 1 0) + g (o.1.getD 2 0) = g 0 + g 1 + g 2 := by
  unfold lordL at h
  simp only [List.mem_cons, List.not_mem_nil, or_false] at h
  rcases h with rfl | rfl | rfl | rfl | rfl | rfl <;> simp only [List.getD_cons_zero, List.getD_cons_succ] <;> omega
theorem Mag.form {g : Nat → Int} {J : Int} (h : Mag (sqF g) J) {y : Frm} (hy : y ∈ frmsL g) : ∃ S, nine S = y.1 ∧ Mag S J := by
  rw [frms_eq] at hy
  obtain ⟨fl, _, hy⟩ := List.mem_flatMap.mp hy
  obtain ⟨o1, m1, hy⟩ := List.mem_flatMap.mp hy
  obtain ⟨o2, m2, rfl⟩ := List.mem_map.mp hy
  refine ⟨_, f3_nine g fl o1 o2, fun i hi => ?_, fun j hj => ?_, fun i hi j hj => ?_⟩
  · have i' := lord_lt m1 hi
    show bF g fl (o1.1.getD i 0) (o2.1.getD 0 0) + bF g fl (o1.1.getD i 0) (o2.1.getD 1 0) + bF g fl (o1.1.getD i 0) (o2.1.getD 2 0) = J
    rw [lord_sum m2 (bF g fl (o1.1.getD i 0))]
    cases fl
    · exact h.row _ i'
    · exact h.col _ i'
  · have j' := lord_lt m2 hj
    show bF g fl (o1.1.getD 0 0) (o2.1.getD j 0) + bF g fl (o1.1.getD 1 0) (o2.1.getD j 0) + bF g fl (o1.1.getD 2 0) (o2.1.getD j 0) = J
    rw [lord_sum m1 (fun x => bF g fl x (o2.1.getD j 0))]
    cases fl
    · exact h.col _ j'
    · exact h.row _ j'
  · have i' := lord_lt m1 hi
    have j' := lord_lt m2 hj
    show 0 ≤ bF g fl (o1.1.getD i 0) (o2.1.getD j 0)
    cases fl
    · exact h.pos _ i' _ j'
    · exact h.pos _ j' _ i'
theorem tri_mag {a u b v c w : Int} (T : Tri a u b v c w) : Mag (sqF (sqN a u b v c w)) ((a + b + c) / 2) := by
  obtain ⟨a0, a1, a2, a3, a4⟩ := T.p1
  obtain ⟨b0, b1, b2, b3, b4⟩ := T.p2
  obtain ⟨c0, c1, c2, c3, c4⟩ := T.p3
  obtain ⟨j1, j2, j3, j4⟩ := canB_iff.mp T.j
  have z := T.z
  refine ⟨fun i hi => ?_, fun j hj => ?_, fun i hi j hj => ?_⟩
  · have ci : i = 0 ∨ i = 1 ∨ i = 2 := by omega
    rcases ci with rfl | rfl | rfl
    · show (b + c - a) / 2 + (c + a - b) / 2 + (a + b - c) / 2 = _
      omega
    · show (a - u) / 2 + (b - v) / 2 + (c - w) / 2 = _
      omega
    · show (a + u) / 2 + (b + v) / 2 + (c + w) / 2 = _
      omega
  · have cj : j = 0 ∨ j = 1 ∨ j = 2 := by omega
    rcases cj with rfl | rfl | rfl
    · show (b + c - a) / 2 + (a - u) / 2 + (a + u) / 2 = _
      omega
    · show (c + a - b) / 2 + (b - v) / 2 + (b + v) / 2 = _
      omega
    · show (a + b - c) / 2 + (c - w) / 2 + (c + w) / 2 = _
      omega
  · have ci : i = 0 ∨ i = 1 ∨ i = 2 := by omega
    have cj : j = 0 ∨ j = 1 ∨ j = 2 := by omega
    rcases ci with rfl | rfl | rfl <;> rcases cj with rfl | rfl | rfl
    · show 0 ≤ (b + c - a) / 2
      omega
    · show 0 ≤ (c + a - b) / 2
      omega
    · show 0 ≤ (a + b - c) / 2
      omega
    · show 0 ≤ (a - u) / 2
      omega
    · show 0 ≤ (b - v) / 2
      omega
    · show 0 ≤ (c - w) / 2
      omega
    · show 0 ≤ (a + u) / 2
      omega
    · show 0 ≤ (b + v) / 2
      omega
    · show 0 ≤ (c + w) / 2
      omega
/-- the pairs of a square's columns have it as their square -/
theorem mag_tri {S : Nat → Nat → Int} {J : Int} (h : Mag S J) (l0 : S 1 0 + S 2 0 ≤ 40) (l1 : S 1 1 + S 2 1 ≤ 40) (l2 : S 1 2 + S 2 2 ≤ 40) : Tri (S 1 0 + S 2 0) (S 2 0 - S 1 0) (S 1 1 + S 2 1) (S 2 1 - S 1 1) (S 1 2 + S 2 2) (S 2 2 - S 1 2) ∧ nine (sqF (sqN (S 1 0 + S 2 0) (S 2 0 - S 1 0) (S 1 1 + S 2 1) (S 2 1 - S 1 1) (S 1 2 + S 2 2) (S 2 2 - S 1 2))) = nine S := by
  have r0 := h.row 0 (by decide)
  have r1 := h.row 1 (by decide)
  have r2 := h.row 2 (by decide)
  have c0 := h.col 0 (by decide)
  have c1 := h.col 1 (by decide)
  have c2 := h.col 2 (by decide)
  have p00 := h.pos 0 (by decide) 0 (by decide)
  have p01 := h.pos 0 (by decide) 1 (by decide)
  have p02 := h.pos 0 (by decide) 2 (by decide)
  have p10 := h.pos 1 (by decide) 0 (by decide)
  have p11 := h.pos 1 (by decide) 1 (by decide)
  have p12 := h.pos 1 (by decide) 2 (by decide)
  have p20 := h.pos 2 (by decide) 0 (by decide)
  have p21 := h.pos 2 (by decide) 1 (by decide)
  have p22 := h.pos 2 (by decide) 2 (by decide)
  refine ⟨⟨⟨by omega, by omega, by omega, by omega, by omega⟩, ⟨by omega, by omega, by omega, by omega, by omega⟩, ⟨by omega, by omega, by omega, by omega, by omega⟩, canB_iff.mpr (by omega), by omega⟩, ?_⟩
  unfold nine
  simp only [List.cons.injEq, and_true]
  refine ⟨?_, ?_, ?_, ?_, ?_, ?_, ?_, ?_, ?_⟩
  · show (S 1 1 + S 2 1 + (S 1 2 + S 2 2) - (S 1 0 + S 2 0)) / 2 = S 0 0
    omega
  · show (S 1 2 + S 2 2 + (S 1 0 + S 2 0) - (S 1 1 + S 2 1)) / 2 = S 0 1
    omega
  · show (S 1 0 + S 2 0 + (S 1 1 + S 2 1) - (S 1 2 + S 2 2)) / 2 = S 0 2
    omega
  · show (S 1 0 + S 2 0 - (S 2 0 - S 1 0)) / 2 = S 1 0
    omega
  · show (S 1 1 + S 2 1 - (S 2 1 - S 1 1)) / 2 = S 1 1
    omega
  · show (S 1 2 + S 2 2 - (S 2 2 - S 1 2)) / 2 = S 1 2
    omega
  · show (S 1 0 + S 2 0 + (S 2 0 - S 1 0)) / 2 = S 2 0
    omega
  · show (S 1 1 + S 2 1 + (S 2 1 - S 1 1)) / 2 = S 2 1
    omega
  · show (S 1 2 + S 2 2 + (S 2 2 - S 1 2)) / 2 = S 2 2
    omega
/-! what is shown -/
def leastD (X : List Int) (m : Int) : PyData := .tuple [sqD X, .int m]
theorem shown8 {i : Int} (h : i.natAbs < 10000) : (PyData.shown (.int i)).length ≤ 8 := by
  have e := int_text_length_le10 (a := i) (k := 7) (by decide) (Nat.lt_of_lt_of_le h (by decide +kernel))
  show (Str.ofString (toString i)).length ≤ 8
  rw [PySem.ofString_length]
  exact e
theorem log14 {i : Int} (h : i.natAbs < 10000) : i.natAbs.log2 < 1920 := Nat.lt_of_lt_of_le (PySem.Flt.log2_lt_of (show 0 < 14 by decide) (Nat.lt_trans h (by decide))) (by decide)
theorem w14 {i : Int} (h : i.natAbs < 10000) : PyData.weight (.int i) ≤ 14 := by
  show (if i == 0 then 0 else i.natAbs.log2 + 1) ≤ 14
  have := PySem.Flt.log2_lt_of (show 0 < 14 by decide) (Nat.lt_trans h (by decide))
  split <;> omega
theorem least_shows {X : List Int} {m : Int} (hX : X.length = 9) (b : ∀ x ∈ X, x.natAbs < 10000) (hm : m.natAbs < 10000) : (leastD X m).showable = true ∧ (leastD X m).hasDict = false ∧ (leastD X m).depth ≤ 60 ∧ (leastD X m).shown.length ≤ sizeLine := by
  match X, hX with
  | [x0, x1, x2, x3, x4, x5, x6, x7, x8], _ =>
    have b0 := b x0 (by simp)
    have b1 := b x1 (by simp)
    have b2 := b x2 (by simp)
    have b3 := b x3 (by simp)
    have b4 := b x4 (by simp)
    have b5 := b x5 (by simp)
    have b6 := b x6 (by simp)
    have b7 := b x7 (by simp)
    have b8 := b x8 (by simp)
    have sl : (leastD [x0, x1, x2, x3, x4, x5, x6, x7, x8] m).leavesShort 8 = true := by
      simp only [leastD, sqD, row3, PyData.leavesShort, PyData.leavesShortAll, Bool.and_true, Bool.and_eq_true, decide_eq_true_eq]
      exact ⟨⟨⟨shown8 b0, shown8 b1, shown8 b2⟩, ⟨shown8 b3, shown8 b4, shown8 b5⟩, shown8 b6, shown8 b7, shown8 b8⟩, shown8 hm⟩
    have wl : (leastD [x0, x1, x2, x3, x4, x5, x6, x7, x8] m).weight ≤ 1000 := by
      have w0 := w14 b0
      have w1 := w14 b1
      have w2 := w14 b2
      have w3 := w14 b3
      have w4 := w14 b4
      have w5 := w14 b5
      have w6 := w14 b6
      have w7 := w14 b7
      have w8 := w14 b8
      have wm := w14 hm
      simp only [leastD, sqD, row3, PyData.weight, PyData.weightAll] at w0 w1 w2 w3 w4 w5 w6 w7 w8 wm ⊢
      omega
    refine ⟨?_, rfl, by show (3 : Nat) ≤ 60; decide, ?_⟩
    · simp only [leastD, sqD, row3, PyData.showable, PyData.showableAll, Bool.and_true, Bool.and_eq_true, decide_eq_true_eq]
      exact ⟨⟨⟨log14 b0, log14 b1, log14 b2⟩, ⟨log14 b3, log14 b4, log14 b5⟩, log14 b6, log14 b7, log14 b8⟩, log14 hm⟩
    · have z := PyData.shown_le 8 (by decide) (leastD [x0, x1, x2, x3, x4, x5, x6, x7, x8] m) sl
      rw [sizeLine_eq]
      omega
theorem mag_nine {S : Nat → Nat → Int} {J : Int} (h : Mag S J) (J60 : J ≤ 60) : ∀ x ∈ nine S, x.natAbs < 10000 := fun x hx => by
  have key : ∀ i, i < 3 → ∀ j, j < 3 → (S i j).natAbs < 10000 := fun i hi j hj => by
    have := h.le hi hj
    have := h.pos i hi j hj
    omega
  unfold nine at hx
  simp only [List.mem_cons, List.not_mem_nil, or_false] at hx
  rcases hx with rfl | rfl | rfl | rfl | rfl | rfl | rfl | rfl | rfl <;> exact key _ (by decide) _ (by decide)
/-- both least forms told alike -/
theorem least_same {g : Nat → Int} {J : Int} (h : Mag (sqF g) J) (J60 : J ≤ 60) {S S' : Nat → Nat → Int} {m m' : Int} (h1 : Lst (frmsL g) (nine S) m) (h2 : Lst (frmsL g) (nine S') m') : nine S = nine S' ∧ m = m' ∧ ((leastD (nine S) m).showable = true ∧ (leastD (nine S) m).hasDict = false ∧ (leastD (nine S) m).depth ≤ 60 ∧ (leastD (nine S) m).shown.length ≤ sizeLine) := by
  obtain ⟨e1, e2⟩ := h1.uniq h2 (List.Perm.refl _) fun y hy => (frms_len g y hy).1
  refine ⟨e1, e2, least_shows rfl ?_ ?_⟩
  · obtain ⟨y, hy, ey⟩ := h1.mem
    obtain ⟨S2, e3, mg⟩ := h.form hy
    rw [← ey, ← e3]
    exact mag_nine mg J60
  · rw [h1.mark]
    split
    · decide
    · split <;> decide
end TC
namespace TC
open PySem PySem.Spec PyProof.Rows L2 TCX
/-- what _law_word reads of the module -/
structure WTxt (K : PySem.W.Frag) (mg : Str → Option Value) : Prop where
  g : ∀ (i : Nat) {x : Str}, clsN[i]? = some x → mg x = some (.ref (He.ga K x))
  gT : mg "TurnError" = some (.ref (He.ga K "TurnError"))
  gV : mg "ValueError" = none
  is : mg "isinstance" = none
section
variable {P : Program} {w : World} {K : PySem.W.Frag} {mg : Str → Option Value} {base : Heap} {f : Addr} {fd : FuncData}
/-! ### _law_word, of a class under TurnError -/
def spWord (K : PySem.W.Frag) : Sp := fun vs H Q _ => ∃ (a D : Addr) (n : Nat), vs = [.ref a] ∧ H a = some (ExV (.ref D) none a) ∧ Kind K D n ∧ n < 18 ∧ ∀ H', Same H H' → Q (.str (words.getD n "")) H'
theorem scWord : FnScope ["_law_e", "_law_words", "_law_some", "_law_at", "_law_under"] ["_law_e"] (defScope sWord) := ⟨rfl, rfl, rfl, by decide +kernel, rfl, by decide +kernel, by decide +kernel⟩
def bits (n : Nat) : List Bool := (List.range 22).map fun i => i == n
theorem bits_all : ∀ n, n < 22 → (((bits n).map V.bl).countP fun z => eqV z (.bl true)) = 1 ∧ (bits n)[n]? = some true ∧ (∀ m, m < n → (bits n)[m]? = some false) := by decide
theorem words_at : ∀ n, n < 22 → words[n]? = some (words.getD n "") := by decide
theorem ok_word (F : FnP K "_law_word" sWord f fd) (T : WTxt K mg) : FnOk P w K mg base CX0 1 f fd ["_law_e"] (spWord K) := by
  refine F.ok scWord (fun vs H Q E h => ?_) (fun cdv A outer s H vs Q E hr h => ?_)
  · obtain ⟨_, _, _, rfl, _⟩ := h
    rfl
  · obtain ⟨a, D, n, rfl, ha, kd, n18, q⟩ := h
    refine ⟨_, PSs.nox
    (pss_cons (ps_set (i := 1) scWord.nd rfl (.inl rfl) (pe_lst (pa_cons pe_str (pa_cons pe_str (pa_cons pe_str (pa_cons pe_str (pa_cons pe_str (pa_cons pe_str (pa_cons pe_str (pa_cons pe_str (pa_cons pe_str (pa_cons pe_str (pa_cons pe_str pa_nil)))))))))))))
    (C8.pss_cut (ps_set (i := 1) scWord.nd rfl (.inl rfl) (pe_op op_cat (pv 1) (pe_lst (pa_cons pe_str (pa_cons pe_str (pa_cons pe_str (pa_cons pe_str (pa_cons pe_str (pa_cons pe_str (pa_cons pe_str (pa_cons pe_str (pa_cons pe_str (pa_cons pe_str (pa_cons pe_str pa_nil))))))))))))))
    (C8.pss_cut (ps_set (i := 2) scWord.nd rfl (.inl rfl) (pe_lst (pa_cons (pe_callB call_isV (by rfl) T.is (by decide +kernel) (pa_cons (pv 0) (pa_cons (pe_glob (v := .ref (He.ga K "Empty")) (by rfl) (T.g 0 rfl) rfl) pa_nil))) (pa_cons (pe_callB call_isV (by rfl) T.is (by decide +kernel) (pa_cons (pv 0) (pa_cons (pe_glob (v := .ref (He.ga K "NoDeed")) (by rfl) (T.g 1 rfl) rfl) pa_nil))) (pa_cons (pe_callB call_isV (by rfl) T.is (by decide +kernel) (pa_cons (pv 0) (pa_cons (pe_glob (v := .ref (He.ga K "NoHalf")) (by rfl) (T.g 2 rfl) rfl) pa_nil))) (pa_cons (pe_callB call_isV (by rfl) T.is (by decide +kernel) (pa_cons (pv 0) (pa_cons (pe_glob (v := .ref (He.ga K "NoLinking")) (by rfl) (T.g 3 rfl) rfl) pa_nil))) pa_nil))))))
    (C8.pss_cut (ps_set (i := 2) scWord.nd rfl (.inl rfl) (pe_op op_cat (pv 2) (pe_lst (pa_cons (pe_callB call_isV (by rfl) T.is (by decide +kernel) (pa_cons (pv 0) (pa_cons (pe_glob (v := .ref (He.ga K "NoNet")) (by rfl) (T.g 4 rfl) rfl) pa_nil))) (pa_cons (pe_callB call_isV (by rfl) T.is (by decide +kernel) (pa_cons (pv 0) (pa_cons (pe_glob (v := .ref (He.ga K "NoNumber")) (by rfl) (T.g 5 rfl) rfl) pa_nil))) (pa_cons (pe_callB call_isV (by rfl) T.is (by decide +kernel) (pa_cons (pv 0) (pa_cons (pe_glob (v := .ref (He.ga K "NoOffset")) (by rfl) (T.g 6 rfl) rfl) pa_nil))) (pa_cons (pe_callB call_isV (by rfl) T.is (by decide +kernel) (pa_cons (pv 0) (pa_cons (pe_glob (v := .ref (He.ga K "NoQuestion")) (by rfl) (T.g 7 rfl) rfl) pa_nil))) pa_nil)))))))
    (C8.pss_cut (ps_set (i := 2) scWord.nd rfl (.inl rfl) (pe_op op_cat (pv 2) (pe_lst (pa_cons (pe_callB call_isV (by rfl) T.is (by decide +kernel) (pa_cons (pv 0) (pa_cons (pe_glob (v := .ref (He.ga K "NoRow")) (by rfl) (T.g 8 rfl) rfl) pa_nil))) (pa_cons (pe_callB call_isV (by rfl) T.is (by decide +kernel) (pa_cons (pv 0) (pa_cons (pe_glob (v := .ref (He.ga K "NoSize")) (by rfl) (T.g 9 rfl) rfl) pa_nil))) (pa_cons (pe_callB call_isV (by rfl) T.is (by decide +kernel) (pa_cons (pv 0) (pa_cons (pe_glob (v := .ref (He.ga K "NoStanding")) (by rfl) (T.g 10 rfl) rfl) pa_nil))) (pa_cons (pe_callB call_isV (by rfl) T.is (by decide +kernel) (pa_cons (pv 0) (pa_cons (pe_glob (v := .ref (He.ga K "NoTable")) (by rfl) (T.g 11 rfl) rfl) pa_nil))) pa_nil)))))))
    (C8.pss_cut (ps_set (i := 2) scWord.nd rfl (.inl rfl) (pe_op op_cat (pv 2) (pe_lst (pa_cons (pe_callB call_isV (by rfl) T.is (by decide +kernel) (pa_cons (pv 0) (pa_cons (pe_glob (v := .ref (He.ga K "NoText")) (by rfl) (T.g 12 rfl) rfl) pa_nil))) (pa_cons (pe_callB call_isV (by rfl) T.is (by decide +kernel) (pa_cons (pv 0) (pa_cons (pe_glob (v := .ref (He.ga K "NotParted")) (by rfl) (T.g 13 rfl) rfl) pa_nil))) (pa_cons (pe_callB call_isV (by rfl) T.is (by decide +kernel) (pa_cons (pv 0) (pa_cons (pe_glob (v := .ref (He.ga K "NoTree")) (by rfl) (T.g 14 rfl) rfl) pa_nil))) (pa_cons (pe_callB call_isV (by rfl) T.is (by decide +kernel) (pa_cons (pv 0) (pa_cons (pe_glob (v := .ref (He.ga K "NoTriple")) (by rfl) (T.g 15 rfl) rfl) pa_nil))) pa_nil)))))))
    (C8.pss_cut (ps_set (i := 2) scWord.nd rfl (.inl rfl) (pe_op op_cat (pv 2) (pe_lst (pa_cons (pe_callB call_isV (by rfl) T.is (by decide +kernel) (pa_cons (pv 0) (pa_cons (pe_glob (v := .ref (He.ga K "NoWay")) (by rfl) (T.g 16 rfl) rfl) pa_nil))) (pa_cons (pe_callB call_isV (by rfl) T.is (by decide +kernel) (pa_cons (pv 0) (pa_cons (pe_glob (v := .ref (He.ga K "TooWide")) (by rfl) (T.g 17 rfl) rfl) pa_nil))) (pa_cons (pe_callB call_isV (by rfl) T.is (by decide +kernel) (pa_cons (pv 0) (pa_cons (pe_glob (v := .ref (He.ga K "ByNought")) (by rfl) (T.g 18 rfl) rfl) pa_nil))) (pa_cons (pe_callB call_isV (by rfl) T.is (by decide +kernel) (pa_cons (pv 0) (pa_cons (pe_glob (v := .ref (He.ga K "NoName")) (by rfl) (T.g 19 rfl) rfl) pa_nil))) pa_nil)))))))
    (C8.pss_cut (ps_set (i := 2) scWord.nd rfl (.inl rfl) (pe_op op_cat (pv 2) (pe_lst (pa_cons (pe_callB call_isV (by rfl) T.is (by decide +kernel) (pa_cons (pv 0) (pa_cons (pe_glob (v := .ref (He.ga K "NoPlace")) (by rfl) (T.g 20 rfl) rfl) pa_nil))) (pa_cons (pe_callB call_isV (by rfl) T.is (by decide +kernel) (pa_cons (pv 0) (pa_cons (pe_glob (v := .ref (He.ga K "NothingDone")) (by rfl) (T.g 21 rfl) rfl) pa_nil))) pa_nil)))))
    (pss_cons (ps_if (pt_cmpR op_ne (pe_bm PySem.F.plainAttrs_list PySem.F.slot_list_count PySem.F.type_list_count mt_count (pv 2) (pa_cons pe_bl pa_nil)) pe_int (nomark _)) (pss_one (ps_ret pe_str)) pss_nil)
    (pss_cons (ps_set (i := 3) scWord.nd rfl (.inl rfl) (pe_bm PySem.F.plainAttrs_list PySem.F.slot_list_index PySem.F.type_list_index mt_index (pv 2) (pa_cons pe_bl pa_nil)))
    (pss_cons (ps_if (pt_cmpR op_lt (pv 3) pe_int (nomark _)) (pss_one (ps_ret (pe_ifExp (PW.pt (pw_and (pt_val (pe_callB call_isV (by rfl) T.is (by decide +kernel) (pa_cons (pv 0) (pa_cons (pe_glob (v := .ref (He.ga K "TurnError")) (by rfl) T.gT rfl) pa_nil)))) (pw_and1 (pt_val (pe_callB call_isV (by rfl) T.is (by decide +kernel) (pa_cons (pv 0) (pa_cons (pe_bltn (v := .ty "ValueError") (by rfl) T.gV (by decide +kernel) rfl) pa_nil))))))) (pe_ix ix_list (pv 1) (pv 3) (fun _ _ => rfl)) pe_str))) pss_nil)
      pss_never))))))))))), ?_⟩
    refine ⟨by show 11 ≤ sizeLine; decide, fun l0 hl0 => ?_⟩
    have s0 := same_upd (o := .lst ((words.take 11).map V.str)) hl0
    refine ⟨fun σ H1 => ∃ pw, σ = [some (.ref a), some (.ref pw), none, none, none] ∧ H1 pw = some (.lst (words.map V.str)) ∧ Same H H1, ?_, fun σ1 H1 h1 => ?_⟩
    · refine ⟨_, rfl, by show 11 ≤ sizeLine; decide, fun l1 hl1 => ?_⟩
      have s1 := same_upd (o := .lst ((words.drop 11).map V.str)) hl1
      refine ⟨_, _, _, _, rfl, rfl, s1 _ _ upd_same, upd_same, by show 22 ≤ sizeLine; decide, fun p hp => ?_⟩
      exact ⟨p, rfl, upd_same, (s0.trans s1).trans (same_upd hp)⟩
    obtain ⟨pw, rfl, hw, sm⟩ := h1
    have ha0 := sm _ _ ha
    refine ⟨fun σ H2 => ∃ ps, σ = [some (.ref a), some (.ref pw), some (.ref ps), none, none] ∧ H2 pw = some (.lst (words.map V.str)) ∧ H2 ps = some (.lst (((bits n).take 4).map V.bl)) ∧ Same H H2, ?_, fun σ2 H2 h2 => ?_⟩
    · refine ⟨_, rfl, a, D, _, _, _, rfl, ha0, kd.ec, fun _ r => r, kd.kits.at 0 rfl, _, rfl, a, D, _, _, _, rfl, ha0, kd.ec, fun _ r => r, kd.kits.at 1 rfl, _, rfl, a, D, _, _, _, rfl, ha0, kd.ec, fun _ r => r, kd.kits.at 2 rfl, _, rfl, a, D, _, _, _, rfl, ha0, kd.ec, fun _ r => r, kd.kits.at 3 rfl, by show 4 ≤ sizeLine; decide, fun l hl => ?_⟩
      exact ⟨l, rfl, (same_upd hl) _ _ hw, upd_same, sm.trans (same_upd hl)⟩
    obtain ⟨ps, rfl, hw, hs, sm⟩ := h2
    have ha1 := sm _ _ ha
    refine ⟨fun σ H3 => ∃ ps, σ = [some (.ref a), some (.ref pw), some (.ref ps), none, none] ∧ H3 pw = some (.lst (words.map V.str)) ∧ H3 ps = some (.lst (((bits n).take 8).map V.bl)) ∧ Same H H3, ?_, fun σ2 H3 h2 => ?_⟩
    · refine ⟨_, rfl, _, rfl, a, D, _, _, _, rfl, ha1, kd.ec, fun _ r => r, kd.kits.at 4 rfl, _, rfl, a, D, _, _, _, rfl, ha1, kd.ec, fun _ r => r, kd.kits.at 5 rfl, _, rfl, a, D, _, _, _, rfl, ha1, kd.ec, fun _ r => r, kd.kits.at 6 rfl, _, rfl, a, D, _, _, _, rfl, ha1, kd.ec, fun _ r => r, kd.kits.at 7 rfl, by show 4 ≤ sizeLine; decide, fun l hl => ?_⟩
      have s1 := same_upd (o := .lst (([4 == n, 5 == n, 6 == n, 7 == n] : List Bool).map V.bl)) hl
      refine ⟨_, _, _, _, rfl, rfl, s1 _ _ hs, upd_same, by show 8 ≤ sizeLine; decide, fun p hp => ?_⟩
      exact ⟨p, rfl, (same_upd hp) _ _ (s1 _ _ hw), upd_same, (sm.trans s1).trans (same_upd hp)⟩
    obtain ⟨ps, rfl, hw, hs, sm⟩ := h2
    have ha2 := sm _ _ ha
    refine ⟨fun σ H4 => ∃ ps, σ = [some (.ref a), some (.ref pw), some (.ref ps), none, none] ∧ H4 pw = some (.lst (words.map V.str)) ∧ H4 ps = some (.lst (((bits n).take 12).map V.bl)) ∧ Same H H4, ?_, fun σ2 H4 h2 => ?_⟩
    · refine ⟨_, rfl, _, rfl, a, D, _, _, _, rfl, ha2, kd.ec, fun _ r => r, kd.kits.at 8 rfl, _, rfl, a, D, _, _, _, rfl, ha2, kd.ec, fun _ r => r, kd.kits.at 9 rfl, _, rfl, a, D, _, _, _, rfl, ha2, kd.ec, fun _ r => r, kd.kits.at 10 rfl, _, rfl, a, D, _, _, _, rfl, ha2, kd.ec, fun _ r => r, kd.kits.at 11 rfl, by show 4 ≤ sizeLine; decide, fun l hl => ?_⟩
      have s1 := same_upd (o := .lst (([8 == n, 9 == n, 10 == n, 11 == n] : List Bool).map V.bl)) hl
      refine ⟨_, _, _, _, rfl, rfl, s1 _ _ hs, upd_same, by show 12 ≤ sizeLine; decide, fun p hp => ?_⟩
      exact ⟨p, rfl, (same_upd hp) _ _ (s1 _ _ hw), upd_same, (sm.trans s1).trans (same_upd hp)⟩
    obtain ⟨ps, rfl, hw, hs, sm⟩ := h2
    have ha3 := sm _ _ ha
    refine ⟨fun σ H5 => ∃ ps, σ = [some (.ref a), some (.ref pw), some (.ref ps), none, none] ∧ H5 pw = some (.lst (words.map V.str)) ∧ H5 ps = some (.lst (((bits n).take 16).map V.bl)) ∧ Same H H5, ?_, fun σ2 H5 h2 => ?_⟩
    · refine ⟨_, rfl, _, rfl, a, D, _, _, _, rfl, ha3, kd.ec, fun _ r => r, kd.kits.at 12 rfl, _, rfl, a, D, _, _, _, rfl, ha3, kd.ec, fun _ r => r, kd.kits.at 13 rfl, _, rfl, a, D, _, _, _, rfl, ha3, kd.ec, fun _ r => r, kd.kits.at 14 rfl, _, rfl, a, D, _, _, _, rfl, ha3, kd.ec, fun _ r => r, kd.kits.at 15 rfl, by show 4 ≤ sizeLine; decide, fun l hl => ?_⟩
      have s1 := same_upd (o := .lst (([12 == n, 13 == n, 14 == n, 15 == n] : List Bool).map V.bl)) hl
      refine ⟨_, _, _, _, rfl, rfl, s1 _ _ hs, upd_same, by show 16 ≤ sizeLine; decide, fun p hp => ?_⟩
      exact ⟨p, rfl, (same_upd hp) _ _ (s1 _ _ hw), upd_same, (sm.trans s1).trans (same_upd hp)⟩
    obtain ⟨ps, rfl, hw, hs, sm⟩ := h2
    have ha4 := sm _ _ ha
    refine ⟨fun σ H6 => ∃ ps, σ = [some (.ref a), some (.ref pw), some (.ref ps), none, none] ∧ H6 pw = some (.lst (words.map V.str)) ∧ H6 ps = some (.lst (((bits n).take 20).map V.bl)) ∧ Same H H6, ?_, fun σ2 H6 h2 => ?_⟩
    · refine ⟨_, rfl, _, rfl, a, D, _, _, _, rfl, ha4, kd.ec, fun _ r => r, kd.kits.at 16 rfl, _, rfl, a, D, _, _, _, rfl, ha4, kd.ec, fun _ r => r, kd.kits.at 17 rfl, _, rfl, a, D, _, _, _, rfl, ha4, kd.ec, fun _ r => r, kd.kits.at 18 rfl, _, rfl, a, D, _, _, _, rfl, ha4, kd.ec, fun _ r => r, kd.kits.at 19 rfl, by show 4 ≤ sizeLine; decide, fun l hl => ?_⟩
      have s1 := same_upd (o := .lst (([16 == n, 17 == n, 18 == n, 19 == n] : List Bool).map V.bl)) hl
      refine ⟨_, _, _, _, rfl, rfl, s1 _ _ hs, upd_same, by show 20 ≤ sizeLine; decide, fun p hp => ?_⟩
      exact ⟨p, rfl, (same_upd hp) _ _ (s1 _ _ hw), upd_same, (sm.trans s1).trans (same_upd hp)⟩
    obtain ⟨ps, rfl, hw, hs, sm⟩ := h2
    have ha5 := sm _ _ ha
    refine ⟨fun σ H7 => ∃ ps, σ = [some (.ref a), some (.ref pw), some (.ref ps), none, none] ∧ H7 pw = some (.lst (words.map V.str)) ∧ H7 ps = some (.lst (((bits n).take 22).map V.bl)) ∧ Same H H7, ?_, fun σ2 H7 h2 => ?_⟩
    · refine ⟨_, rfl, _, rfl, a, D, _, _, _, rfl, ha5, kd.ec, fun _ r => r, kd.kits.at 20 rfl, _, rfl, a, D, _, _, _, rfl, ha5, kd.ec, fun _ r => r, kd.kits.at 21 rfl, by show 2 ≤ sizeLine; decide, fun l hl => ?_⟩
      have s1 := same_upd (o := .lst (([20 == n, 21 == n] : List Bool).map V.bl)) hl
      refine ⟨_, _, _, _, rfl, rfl, s1 _ _ hs, upd_same, by show 22 ≤ sizeLine; decide, fun p hp => ?_⟩
      exact ⟨p, rfl, (same_upd hp) _ _ (s1 _ _ hw), upd_same, (sm.trans s1).trans (same_upd hp)⟩
    obtain ⟨ps, rfl, hw, hs, sm⟩ := h2
    have ha7 := sm _ _ ha
    obtain ⟨c1, c2, c3⟩ := bits_all n (by omega)
    have hs2 : H7 ps = some (.lst ((bits n).map V.bl)) := hs
    have fl : ((bits n).map V.bl).all flatV = true := by
      rw [List.all_map]
      exact List.all_eq_true.mpr fun _ _ => rfl
    refine ⟨_, rfl, .inl ⟨rfl, _, SqL.of hs2⟩, ps, _, _, rfl, rfl, SqL.of hs2, rfl, fl, rfl, _, rfl, iteNS (congrArg V.int (by rw [c1]; rfl)) ?_⟩
    refine ⟨_, rfl, .inl ⟨rfl, _, SqL.of hs2⟩, ps, _, _, n, _, rfl, rfl, SqL.of hs2, rfl, fl, by rw [List.getElem?_map, c2]; rfl, rfl, fun m z hm hz => ?_, ?_⟩
    · rw [List.getElem?_map, c3 m hm] at hz
      cases hz
      rfl
    refine ⟨_, rfl, _, 18, rfl, rfl, _, rfl, iteD1 (by omega) ?_⟩
    refine ⟨_, rfl, a, D, _, _, _, rfl, ha7, kd.ec, fun _ r => r, kd.te, _, rfl, iteD1 n18 ?_⟩
    refine ⟨_, rfl, a, D, _, _, _, rfl, ha7, kd.ec, fun _ r => r, kd.ve, _, rfl, iteD1 n18 ?_⟩
    refine ⟨_, rfl, _, rfl, pw, _, _, _, rfl, rfl, SqL.of hw, atI_nat (by rw [List.getElem?_map, words_at n (by omega)]; rfl), ?_⟩
    exact q _ sm
end
end TC
namespace TC
open PySem PySem.Spec PyProof.Rows L2 TCX
/-- a wish may be made stronger -/
theorem pe_weak {X : Cx} {e : Expr} {t : TE} (he : PE X e t) : PE X e (fun σ H Q => ∃ Q' : VK, (∀ v H', Q' v H' → Q v H') ∧ t σ H Q') := by
  refine ⟨fun pins s σ H Q I h => ?_⟩
  obtain ⟨Q', m, h⟩ := h
  refine wpAny_mono (he.run pins s σ H Q' I h) (fun u s' z => ?_) fun _ _ z => z
  obtain ⟨v, H1, I1, r, q⟩ := z
  exact ⟨v, H1, I1, r, m v H1 q⟩
/-! ### _law_said, handed a lambda -/
/-- what _law_said makes of the lambda's reading tl: refusals are of classes under TurnError without fields -/
def TSaid (K : PySem.W.Frag) : (XK → Hp → VK → Prop) → Hp → VK → Prop := fun tl H Q => ∀ H1, Same H H1 →
  tl (fun cls d H' => ∃ (D : Addr) (n : Nat), cls = .ref D ∧ d = none ∧ Kind K D n ∧ n < 18 ∧ PySem.W.exmAny K (.ref D) [.ref (He.ga K "TurnError")] = some true ∧ ∀ p H2, Same H' H2 → H2 p = some (.tup [.str "refused", .str (words.getD n "")]) → Q (.ref p) H2)
    H1 (fun v H' => ∀ p, H' p = none → Q (.ref p) (upd H' p (.tup [.str "told", v])))
theorem scSaid : FnScope ["_law_call", "_law_told", "_law_error", "_law_e"] ["_law_call"] (defScope sSaid) := ⟨rfl, rfl, rfl, by decide +kernel, rfl, by decide +kernel, by decide +kernel⟩
structure STxt (K : PySem.W.Frag) (mg : Str → Option Value) : Prop where
  g1 : mg "TurnError" = some (.ref (He.ga K "TurnError"))
  g2 : mg "ByNought" = some (.ref (He.ga K "ByNought"))
  g3 : mg "NoName" = some (.ref (He.ga K "NoName"))
  g4 : mg "NoPlace" = some (.ref (He.ga K "NoPlace"))
  g5 : mg "NothingDone" = some (.ref (He.ga K "NothingDone"))
theorem said_gives {X : Cx} {g fW : Addr} {fdW : FuncData} {cdg : Value} {q : Str} (T : STxt X.K X.mg) (GW : FnOk X.prog X.w X.K X.mg X.base CX0 1 fW fdW ["_law_e"] (spWord X.K)) (bW : L2.Binds X.K fdW ["_law_e"] []) (kW : PySem.W.keepIn X.K (.ref fW) = true) (gW : X.mg "_law_word" = some (.ref fW)) (hr : Room 2 X.A) :
    LamX.GivesTo X ["_law_call", "_law_told", "_law_error", "_law_e"] "_law_said" (defScope sSaid) g cdg (defBody sSaid) "_law_call" q (TSaid X.K) := by
  intro f c' s H Q tl act hc h
  have hr' : Room 1 (cxOf C8.CX0 X.prog X.w X.K X.mg X.base ["_law_call", "_law_told", "_law_error", "_law_e"] "_law_said" (defScope sSaid) g cdg X.A X.stack s H C8.E0).nox.A := hr.deeper _
  refine ⟨_, pss_cons (ps_asg (pe_tup (pa_cons pe_non (pa_cons pe_non pa_nil))) (pg_tup rfl (pgs_cons (pg_name (i := 1) scSaid.nd rfl (.inl rfl)) (pgs_cons (pg_name (i := 2) scSaid.nd rfl (.inl rfl)) pgs_nil))))
    (pss_cons (ps_try_keep (tb := fun W D σ H => ∃ (Ech : XK) (Qn : VK), (∀ cls d σ' H', Ech cls d H' → W cls d σ' H') ∧ (∀ v H', Qn v H' → D.nx (σ.set 1 (some v)) H') ∧ σ[0]? = some (some (.ref f)) ∧ H c' = some (LamX.CodeO c' q) ∧ tl Ech H Qn) rfl rfl rfl scSaid.nd (fun W pn xe tk _ => ?_)
      (HdK.cons (i := 3) (cs := [.ref (He.ga X.K "TurnError")]) (fun cls b z => ?_) rfl rfl (fun a cls d pn => pss_one (ps_set (i := 2) scSaid.nd rfl (.inl rfl) (pv 3)))
      (HdK.cons (i := 3) (cs := [.ref (He.ga X.K "ByNought"), .ref (He.ga X.K "NoName"), .ref (He.ga X.K "NoPlace"), .ref (He.ga X.K "NothingDone")]) (fun cls b z => ?_) rfl rfl (fun a cls d pn => pss_one (ps_set (i := 2) scSaid.nd rfl (.inl rfl) (pv 3))) HdK.nil)))
    (pss_one (ps_ret (pe_ifExp (pt_cmpR op_isN (pv 2) pe_non (nomark _)) (pe_tup (pa_cons pe_str (pa_cons (pv 1) pa_nil)))
      (pe_tup (pa_cons pe_str (pa_cons (pe_call GW hr' (by rfl) gW kW bW .nil (E := E0) pass0 (pa_cons (pv 2) pa_nil)) pa_nil))))))), ?_⟩
  · refine ⟨fun pins s' σ H' D I h' => ?_⟩
    obtain ⟨Ech, Qn, hW, hn, h1, h2, h3⟩ := h'
    exact (pss_one (ps_set (i := 1) scSaid.nd rfl (.inl rfl) (pe_weak (act W pn xe Ech _ _ tk hW)))).run pins s' σ H' D I ⟨Qn, hn, h1, h2, h3⟩
  · refine tst_name ⟨rfl, by decide, .inl T.g1⟩ ?_
    obtain ⟨b1, d1, z1, z2, z3⟩ := PySem.W.exmAny_cons z
    cases (show some false = some d1 from z2)
    rw [z1, z3, Bool.or_false]
  · exact tst_tup4 ⟨rfl, by decide, .inl T.g2⟩ ⟨rfl, by decide, .inl T.g3⟩ ⟨rfl, by decide, .inl T.g4⟩ ⟨rfl, by decide, .inl T.g5⟩ z
  · refine ⟨by show 2 ≤ sizeLine; decide, fun t ht => ⟨t, _, rfl, SqT.of upd_same, rfl, _, _, rfl, _, _, rfl, rfl, ?_⟩⟩
    have s1 := same_upd (o := .tup [.non, .non]) ht
    refine ⟨_, _, fun cls d σ' H' z => ?_, ?_, rfl, s1 _ _ hc, h _ s1⟩
    · intro hl
      obtain ⟨D, n, rfl, rfl, kd, n18, hx, hq⟩ := z
      match σ', hl with
      | [x0, x1, x2, x3], _ =>
        refine ⟨true, hx, fun _ a ha => ?_, fun z => Bool.noConfusion z⟩
        have s2 := same_upd (o := ExV (.ref D) none a) ha
        refine ⟨_, rfl, _, rfl, rfl, _, rfl, iteD0 (fun z => by cases z) ?_⟩
        refine ⟨_, rfl, a, D, n, rfl, upd_same, kd, n18, fun H2 s3 => ?_⟩
        exact ⟨by show 2 ≤ sizeLine; decide, fun p hp => hq p _ ((s2.trans s3).trans (same_upd hp)) upd_same⟩
    · exact fun v H' hv => ⟨_, rfl, rfl, _, rfl, iteD1 rfl ⟨_, rfl, by show 2 ≤ sizeLine; decide, fun p hp => hv p hp⟩⟩
end TC
namespace TB
open TC PySem PySem.Spec PyProof.Rows L2 TCA TCX
section
variable {P : Program} {w : World} {K : PySem.W.Frag} {mg : Str → Option Value} {base : Heap} {f fD fZ fT : Addr} {fd fdD fdZ fdT : FuncData}
/-! ### _law_odd -/
theorem no_non {K : PySem.W.Frag} {H : Hp} : NotInt K H .non := ⟨_, false, false, .base .non, kit_ty (by decide +kernel), kit_ty (by decide +kernel), rfl⟩
theorem no_bl {K : PySem.W.Frag} {H : Hp} (b : Bool) : NotInt K H (.bl b) := ⟨_, true, true, .base (.bl b), kit_ty (by decide +kernel), kit_ty (by decide +kernel), rfl⟩
theorem no_str {K : PySem.W.Frag} {H : Hp} (z : Str) : NotInt K H (.str z) := ⟨_, false, false, .base (.str z), kit_ty (by decide +kernel), kit_ty (by decide +kernel), rfl⟩
theorem no_tup {K : PySem.W.Frag} {H : Hp} {a : Addr} {xs : List V} (h : H a = some (.tup xs)) : NotInt K H (.ref a) := ⟨_, false, false, .base (.tup h), kit_ty (by decide +kernel), kit_ty (by decide +kernel), rfl⟩
theorem no_lst {K : PySem.W.Frag} {H : Hp} {a : Addr} {xs : List V} (h : H a = some (.lst xs)) : NotInt K H (.ref a) := ⟨_, false, false, .base (.lst h), kit_ty (by decide +kernel), kit_ty (by decide +kernel), rfl⟩
theorem no_dK {K : PySem.W.Frag} {H : Hp} {a : Addr} {xs : List (Key × V)} (h : H a = some (.dK xs)) : NotInt K H (.ref a) := ⟨_, false, false, .base (.dK h), kit_ty (by decide +kernel), kit_ty (by decide +kernel), rfl⟩
def OddT (K : PySem.W.Frag) (H : Hp) (v : V) : Prop := (∃ ty, TyX K H v ty ∧ PySem.W.kitOne K ty (.type "tuple") = some false) ∨ (∃ (a : Addr) (xs : List V), v = .ref a ∧ H a = some (.tup xs) ∧ xs.length < 2) ∨ ∃ (a : Addr) (t o : V), v = .ref a ∧ H a = some (.tup [t, o]) ∧ Siz K H t false
def spOddL (K : PySem.W.Frag) : Sp := fun vs H Q _ => ∃ (p c : Addr) (ms : List Int) (n : Int), vs = [.ref p] ∧ PenAt H p c ms n ∧ 0 ≤ n ∧ n ≤ 900000 ∧
  ∀ (v : V) (n' : Int) H', OddT K H' v → n ≤ n' → n' ≤ n + 1 → PenAt H' p c ms n' → SameBut p H H' → Q v H'
theorem scOddL : FnScope ["_law_pen_here", "_law_some"] ["_law_pen_here"] (defScope sOddL) := ⟨rfl, rfl, rfl, by decide +kernel, rfl, by decide +kernel, by decide +kernel⟩
theorem cases17 {d : Int} (h0 : 0 ≤ d) (h1 : d < 17) : d = 0 ∨ d = 1 ∨ d = 2 ∨ d = 3 ∨ d = 4 ∨ d = 5 ∨ d = 6 ∨ d = 7 ∨ d = 8 ∨ d = 9 ∨ d = 10 ∨ d = 11 ∨ d = 12 ∨ d = 13 ∨ d = 14 ∨ d = 15 ∨ d = 16 := by omega
theorem ok_oddL (F : FnP K "_law_odd" sOddL f fd) (GD : FnOk P w K mg base CX0 1 fD fdD ["_law_pen_here", "_law_many"] spDraw) (bD : L2.Binds K fdD ["_law_pen_here", "_law_many"] []) (kD : PySem.W.keepIn K (.ref fD) = true) (gD : mg "_law_draw" = some (.ref fD)) :
    FnOk P w K mg base CX0 2 f fd ["_law_pen_here"] (spOddL K) := by
  refine F.ok scOddL (fun vs H Q E h => ?_) (fun cdv A outer s H vs Q E hr h => ?_)
  · obtain ⟨p, c, ms, n, rfl, _⟩ := h
    rfl
  · obtain ⟨p, c, ms, n, rfl, hp, n0, n1, q⟩ := h
    refine ⟨_, PSs.nox (pss_cons (ps_set (i := 1) scOddL.nd rfl (.inl rfl) (pe_lst (pa_cons pe_non (pa_cons pe_bl (pa_cons pe_bl (pa_cons (pe_un un_neg pe_int) (pa_cons pe_int (pa_cons (pe_op op_pow pe_int pe_int) (pa_cons (pe_un un_neg pe_int) (pa_cons pe_str (pa_cons pe_str
      (pa_cons (pe_tup pa_nil) (pa_cons (pe_tup (pa_cons pe_int pa_nil)) (pa_cons (pe_lst (pa_cons pe_int pa_nil)) (pa_cons pe_dnewK (pa_cons (pe_tup (pa_cons (pe_un un_neg pe_int) (pa_cons pe_int pa_nil))) (pa_cons pe_str (pa_cons (pe_lst (pa_cons (pe_lst pa_nil) pa_nil)) (pa_cons (pe_tup (pa_cons pe_non (pa_cons pe_non pa_nil))) pa_nil)))))))))))))))))))
      (pss_one (ps_ret (pe_ix ix_list (pv 1) (pe_call GD hr (by rfl) gD kD bD .nil pass0 (pa_cons (pv 0) (pa_cons pe_int pa_nil))) (fun _ _ => rfl))))), ?_⟩
    refine ⟨1, rfl, 10, 30, rfl, rfl, ⟨by decide, by decide, by decide⟩, 2, rfl, by show 0 ≤ sizeLine; decide, fun t1 h1 => ?_⟩
    refine ⟨by show 1 ≤ sizeLine; decide, fun t2 h2 => ?_⟩
    refine ⟨by show 1 ≤ sizeLine; decide, fun t3 h3 => ?_⟩
    intro t4 h4
    refine ⟨1, rfl, by show 2 ≤ sizeLine; decide, fun t5 h5 => ?_⟩
    refine ⟨by show 0 ≤ sizeLine; decide, fun t6 h6 => ?_⟩
    refine ⟨by show 1 ≤ sizeLine; decide, fun t7 h7 => ?_⟩
    refine ⟨by show 2 ≤ sizeLine; decide, fun t8 h8 => ?_⟩
    refine ⟨by show 17 ≤ sizeLine; decide, fun t9 h9 => ?_⟩
    have s1 := same_upd (o := .tup []) h1
    have s2 := same_upd (o := .tup [.int 2]) h2
    have s3 := same_upd (o := .lst [.int 2]) h3
    have s4 := same_upd (o := .dK []) h4
    have s5 := same_upd (o := .tup [.int (-1), .int 0]) h5
    have s6 := same_upd (o := .lst []) h6
    have s7 := same_upd (o := .lst [.ref t6]) h7
    have s8 := same_upd (o := .tup [.non, .non]) h8
    have s9 := same_upd (o := .lst [.non, .bl true, .bl false, .int (-1), .int 41, .int (10 ^ 30), .int (-2), .str "2", .str "", .ref t1, .ref t2, .ref t3, .ref t4, .ref t5, .str "a", .ref t7, .ref t8]) h9
    have e9 := s9
    have e8 := s8.trans e9
    have e7 := s7.trans e8
    have e6 := s6.trans e7
    have e5 := s5.trans e6
    have e4 := s4.trans e5
    have e3 := s3.trans e4
    have e2 := s2.trans e3
    have e1 := s1.trans e2
    refine ⟨_, rfl, _, rfl, p, c, ms, n, 17, rfl, hp.same e1, n0, by omega, by decide, by decide, fun d n' H' d0 d1 a0 a1 p' sb => ?_⟩
    have sall : SameBut p H H' := SameBut.trans (Same.but e1) sb
    have hne : ∀ {G : Hp} {t : Addr}, Same H G → G t = none → t ≠ p := fun sg hg => PenAt.ne (hp.same sg) hg
    have u1 := sb t1 _ (hne (fun _ _ z => z) h1) (e2 _ _ upd_same)
    have u2 := sb t2 _ (hne s1 h2) (e3 _ _ upd_same)
    have u3 := sb t3 _ (hne (s1.trans s2) h3) (e4 _ _ upd_same)
    have u4 := sb t4 _ (hne ((s1.trans s2).trans s3) h4) (e5 _ _ upd_same)
    have u5 := sb t5 _ (hne (((s1.trans s2).trans s3).trans s4) h5) (e6 _ _ upd_same)
    have u7 := sb t7 _ (hne (((((s1.trans s2).trans s3).trans s4).trans s5).trans s6) h7) (e8 _ _ upd_same)
    have u8 := sb t8 _ (hne ((((((s1.trans s2).trans s3).trans s4).trans s5).trans s6).trans s7) h8) (e9 _ _ upd_same)
    have u9 := sb t9 _ (hne (((((((s1.trans s2).trans s3).trans s4).trans s5).trans s6).trans s7).trans s8) h9) upd_same
    have dn : ∀ v, (∃ ty, TyX K H' v ty ∧ PySem.W.kitOne K ty (.type "tuple") = some false) → OddT K H' v := fun v z => .inl z
    have fin : ∀ v : V, OddT K H' v → Q v H' := fun v z => q v n' H' z a0 a1 p' sall
    rcases cases17 d0 d1 with rfl | rfl | rfl | rfl | rfl | rfl | rfl | rfl | rfl | rfl | rfl | rfl | rfl | rfl | rfl | rfl | rfl
    · exact ⟨t9, _, 0, _, rfl, rfl, SqL.of u9, atI_nat (j := 0) rfl, fin _ (dn _ ⟨_, .base .non, kit_ty (by decide +kernel)⟩)⟩
    · exact ⟨t9, _, 1, _, rfl, rfl, SqL.of u9, atI_nat (j := 1) rfl, fin _ (dn _ ⟨_, .base (.bl _), kit_ty (by decide +kernel)⟩)⟩
    · exact ⟨t9, _, 2, _, rfl, rfl, SqL.of u9, atI_nat (j := 2) rfl, fin _ (dn _ ⟨_, .base (.bl _), kit_ty (by decide +kernel)⟩)⟩
    · exact ⟨t9, _, 3, _, rfl, rfl, SqL.of u9, atI_nat (j := 3) rfl, fin _ (dn _ ⟨_, .base (.int _), kit_ty (by decide +kernel)⟩)⟩
    · exact ⟨t9, _, 4, _, rfl, rfl, SqL.of u9, atI_nat (j := 4) rfl, fin _ (dn _ ⟨_, .base (.int _), kit_ty (by decide +kernel)⟩)⟩
    · exact ⟨t9, _, 5, _, rfl, rfl, SqL.of u9, atI_nat (j := 5) rfl, fin _ (dn _ ⟨_, .base (.int _), kit_ty (by decide +kernel)⟩)⟩
    · exact ⟨t9, _, 6, _, rfl, rfl, SqL.of u9, atI_nat (j := 6) rfl, fin _ (dn _ ⟨_, .base (.int _), kit_ty (by decide +kernel)⟩)⟩
    · exact ⟨t9, _, 7, _, rfl, rfl, SqL.of u9, atI_nat (j := 7) rfl, fin _ (dn _ ⟨_, .base (.str _), kit_ty (by decide +kernel)⟩)⟩
    · exact ⟨t9, _, 8, _, rfl, rfl, SqL.of u9, atI_nat (j := 8) rfl, fin _ (dn _ ⟨_, .base (.str _), kit_ty (by decide +kernel)⟩)⟩
    · exact ⟨t9, _, 9, _, rfl, rfl, SqL.of u9, atI_nat (j := 9) rfl, fin _ (.inr (.inl ⟨t1, _, rfl, u1, by decide⟩))⟩
    · exact ⟨t9, _, 10, _, rfl, rfl, SqL.of u9, atI_nat (j := 10) rfl, fin _ (.inr (.inl ⟨t2, _, rfl, u2, by decide⟩))⟩
    · exact ⟨t9, _, 11, _, rfl, rfl, SqL.of u9, atI_nat (j := 11) rfl, fin _ (dn _ ⟨_, .base (.lst u3), kit_ty (by decide +kernel)⟩)⟩
    · exact ⟨t9, _, 12, _, rfl, rfl, SqL.of u9, atI_nat (j := 12) rfl, fin _ (dn _ ⟨_, .base (.dK u4), kit_ty (by decide +kernel)⟩)⟩
    · exact ⟨t9, _, 13, _, rfl, rfl, SqL.of u9, atI_nat (j := 13) rfl, fin _ (.inr (.inr ⟨t5, _, _, rfl, u5, .inl ⟨-1, rfl, rfl⟩⟩))⟩
    · exact ⟨t9, _, 14, _, rfl, rfl, SqL.of u9, atI_nat (j := 14) rfl, fin _ (dn _ ⟨_, .base (.str _), kit_ty (by decide +kernel)⟩)⟩
    · exact ⟨t9, _, 15, _, rfl, rfl, SqL.of u9, atI_nat (j := 15) rfl, fin _ (dn _ ⟨_, .base (.lst u7), kit_ty (by decide +kernel)⟩)⟩
    · exact ⟨t9, _, 16, _, rfl, rfl, SqL.of u9, atI_nat (j := 16) rfl, fin _ (.inr (.inr ⟨t8, _, _, rfl, u8, .inr ⟨rfl, no_non⟩⟩))⟩
end
end TB
namespace TB
open TC PySem PySem.Spec PyProof.Rows L2 TCA TCX
/-! ### K18M2: squares of triples, told or refused -/
theorem pr_good {K : PySem.W.Frag} {H : Hp} {p : Addr} {a u : Int} (hp : H p = some (pairO (a, u))) (P : PairP a u) : PrV K H (.ref p) (true, true) := by
  refine .inl ⟨p, .int a, .int u, rfl, hp, Siz.int P.t0 P.t1, fun _ => ⟨a, rfl, .inl ⟨u, rfl, ?_⟩⟩⟩
  obtain ⟨h0, h1, h2, h3, h4⟩ := P
  show true = offB a u
  unfold offB
  rw [decide_eq_true h2, decide_eq_true h3, decide_eq_false (show ¬ (a - u) % 2 = 1 by omega)]
  rfl
def fitT (a u b v c w : Int) : Prop := canB a b c = true ∧ u + v + w = 0
instance (a u b v c w : Int) : Decidable (fitT a u b v c w) := by unfold fitT; exact inferInstance
/-- three pairs that have no square -/
structure NoSq (a u b v c w : Int) : Prop where
  p1 : PairP a u
  p2 : PairP b v
  p3 : PairP c w
  n : ¬ fitT a u b v c w
def GoodT (H : Hp) (x : V) (a u b v c w : Int) : Prop := ∃ t, x = .ref t ∧ ThreeAt H t (a, u) (b, v) (c, w) ∧ Tri a u b v c w
/-- what is no triple that has a square, and the class of its refusal -/
def BadT (K : PySem.W.Frag) (CT CS CO : Addr) (H : Hp) (x : V) (C : Addr) : Prop :=
  (C = CT ∧ ((∃ ty, TyX K H x ty ∧ PySem.W.kitOne K ty (.type "tuple") = some false) ∨ ∃ (t : Addr) (xs : List V), x = .ref t ∧ H t = some (.tup xs) ∧ xs.length ≠ 3)) ∨
  (∃ (t : Addr) (v1 v2 v3 : V) (ks : List (Bool × Bool)), x = .ref t ∧ H t = some (.tup [v1, v2, v3]) ∧ Paired (PrV K H) [v1, v2, v3] ks ∧ ((ks.all (·.1) = false ∧ C = CS) ∨ (ks.all (·.1) = true ∧ ks.all (·.2) = false ∧ C = CO))) ∨
  (C = CT ∧ ∃ (t : Addr) (a u b v c w : Int), x = .ref t ∧ ThreeAt H t (a, u) (b, v) (c, w) ∧ NoSq a u b v c w)
section
variable {P : Program} {w : World} {K : PySem.W.Frag} {mg : Str → Option Value} {base : Heap} {f : Addr} {fd : FuncData} {CT CS CO : Addr}
def spNeedSqX (CT : Addr) : Sp := fun vs H Q E => ∃ (p1 p2 p3 : Addr) (a u b v c w : Int), vs = [.ref p1, .ref p2, .ref p3] ∧ Prs3 H p1 p2 p3 a u b v c w ∧ (fitT a u b v c w → ∀ H', Same H H' → Q .non H') ∧ (¬ fitT a u b v c w → ∀ H', Same H H' → E (.ref CT) none H')
theorem ok_needSqX {fJ : Addr} {fdJ : FuncData} (F : FnP K "need_square" sNeedSquare f fd) (GCJ : FnOk P w K mg base CX0 2 fJ fdJ ["one", "other", "third"] spCanJoin) (bCJ : L2.Binds K fdJ ["one", "other", "third"] []) (kCJ : PySem.W.keepIn K (.ref fJ) = true) (gCJ : mg "can_join" = some (.ref fJ)) (XT : XTxt K mg "NoTriple" CT) : FnOk P w K mg base (L2.CX P w) 3 f fd ["one", "other", "third"] (spNeedSqX CT) := by
  refine F.ok scNeedSquare (fun vs H Q E h => ?_) (fun cdv Ar outer s H vs Q E hr h => ?_)
  · obtain ⟨_, _, _, _, _, _, _, _, _, rfl, _⟩ := h
    rfl
  obtain ⟨p1, p2, p3, a, u, b, v, c, w, rfl, ⟨hp1, hp2, hp3⟩, q, q0⟩ := h
  refine ⟨_, C8.pss_cut (ps_asg (pe_tup (pa_cons (pv 0) (pa_cons (pv 1) (pa_cons (pv 2) pa_nil)))) (pg_tup rfl (pgs_cons (pg_tup rfl (pgs_cons (pg_name (i := 3) scNeedSquare.nd rfl (.inl rfl)) (pgs_cons (pg_name (i := 4) scNeedSquare.nd rfl (.inl rfl)) pgs_nil))) (pgs_cons (pg_tup rfl (pgs_cons (pg_name (i := 5) scNeedSquare.nd rfl (.inl rfl)) (pgs_cons (pg_name (i := 6) scNeedSquare.nd rfl (.inl rfl)) pgs_nil))) (pgs_cons (pg_tup rfl (pgs_cons (pg_name (i := 7) scNeedSquare.nd rfl (.inl rfl)) (pgs_cons (pg_name (i := 8) scNeedSquare.nd rfl (.inl rfl)) pgs_nil))) pgs_nil)))))
      (pss_one (ps_if (PW.pt (pw_or (pt_not (pt_val (pe_call GCJ hr (by rfl) gCJ kCJ bCJ .nil pass0 (pa_cons (pv 3) (pa_cons (pv 5) (pa_cons (pv 7) pa_nil)))))) (pw_or1 (pt_cmpR op_ne (pe_op op_add (pe_op op_add (pv 4) (pv 6)) (pv 8)) pe_int (nomark _))))) (pss_one (ps_raise rfl (takes_of rfl rfl rfl rfl) (pmk_own PySem.F.excBase_ValueError XT.e XT.g XT.k (raises_own XT.b XT.t) rfl))) pss_nil)), ?_⟩
  refine ⟨fun σ H' => σ = [some (.ref p1), some (.ref p2), some (.ref p3), some (.int a), some (.int u), some (.int b), some (.int v), some (.int c), some (.int w)] ∧ Same H H', ?_, fun σ H1 hM => ?_⟩
  · refine ⟨_, rfl, _, rfl, _, rfl, by show 3 ≤ sizeLine; decide, fun l hl => ?_⟩
    have s2 := same_upd (o := .tup [.ref p1, .ref p2, .ref p3]) hl
    exact ⟨l, _, rfl, SqT.of upd_same, rfl, _, _, rfl, p1, _, rfl, SqT.of (s2 _ _ hp1), rfl, _, _, rfl, _, _, rfl, rfl, _, _, rfl, p2, _, rfl, SqT.of (s2 _ _ hp2), rfl, _, _, rfl, _, _, rfl, rfl, _, _, rfl, p3, _, rfl, SqT.of (s2 _ _ hp3), rfl, _, _, rfl, _, _, rfl, rfl, rfl, rfl, s2⟩
  obtain ⟨rfl, t1⟩ := hM
  refine ⟨_, rfl, _, rfl, _, rfl, a, b, c, rfl, canB a b c, rfl, ?_⟩
  cases hj : canB a b c with
  | false => exact iteT (iteT (q0 (fun h => by rw [h.1] at hj; cases hj) H1 t1))
  | true =>
    refine iteF ?_
    refine ⟨_, rfl, _, rfl, _, _, rfl, rfl, _, rfl, _, _, rfl, rfl, rfl, _, rfl, ?_⟩
    by_cases z : u + v + w = 0
    · exact iteNS (congrArg V.int z) (q ⟨hj, z⟩ H1 t1)
    · exact iteNT (fun e => z (V.int.inj e)) (q0 (fun h => z h.2) H1 t1)
def spSqOfX (K : PySem.W.Frag) (CT CS CO : Addr) : Sp := fun vs H Q E => ∃ (v1 v2 v3 : V), vs = [v1, v2, v3] ∧
  ((∃ (p1 p2 p3 : Addr) (a u b v c w : Int), v1 = .ref p1 ∧ v2 = .ref p2 ∧ v3 = .ref p3 ∧ Prs3 H p1 p2 p3 a u b v c w ∧ Tri a u b v c w ∧ ∀ t H', Same H H' → SqA H' t (sqF (sqN a u b v c w)) → Q (.ref t) H') ∨
   (∃ ks, Paired (PrV K H) [v1, v2, v3] ks ∧ ((ks.all (·.1) = false ∧ ∀ H', Same H H' → E (.ref CS) none H') ∨ (ks.all (·.1) = true ∧ ks.all (·.2) = false ∧ ∀ H', Same H H' → E (.ref CO) none H'))) ∨
   (∃ (p1 p2 p3 : Addr) (a u b v c w : Int), v1 = .ref p1 ∧ v2 = .ref p2 ∧ v3 = .ref p3 ∧ Prs3 H p1 p2 p3 a u b v c w ∧ NoSq a u b v c w ∧ ∀ H', Same H H' → E (.ref CT) none H'))
theorem ok_sqOfX {fN fS fW : Addr} {fdN fdS fdW : FuncData} (F : FnP K "square_of" sSquareOf f fd)
    (GNP : FnOk P w K mg base (L2.CX P w) 4 fN fdN ["things"] (spNeedP K CS CO)) (bNP : L2.Binds K fdN ["things"] []) (kNP : PySem.W.keepIn K (.ref fN) = true) (gNP : mg "need_pairs" = some (.ref fN))
    (GNS : FnOk P w K mg base (L2.CX P w) 3 fS fdS ["one", "other", "third"] (spNeedSqX CT)) (bNS : L2.Binds K fdS ["one", "other", "third"] []) (kNS : PySem.W.keepIn K (.ref fS) = true) (gNS : mg "need_square" = some (.ref fS))
    (GSW : FnOk P w K mg base CX0 1 fW fdW ["one", "other", "third"] spSquareWith) (bSW : L2.Binds K fdW ["one", "other", "third"] []) (kSW : PySem.W.keepIn K (.ref fW) = true) (gSW : mg "square_with" = some (.ref fW)) : FnOk P w K mg base (L2.CX P w) 5 f fd ["one", "other", "third"] (spSqOfX K CT CS CO) := by
  refine F.ok scSquareOf (fun vs H Q E h => ?_) (fun cdv Ar outer s H vs Q E hr h => ?_)
  · obtain ⟨_, _, _, rfl, _⟩ := h
    rfl
  obtain ⟨v1, v2, v3, rfl, h⟩ := h
  have hr1 := hr.mono (j := 1) (by decide)
  have hr3 := hr.mono (j := 3) (by decide)
  refine ⟨_, (C8.pss_cut (ps_expr (pe_call GNP hr (by rfl) gNP kNP bNP .nil (passes_call (takes_of rfl rfl rfl rfl) fun _ _ _ _ z => z) (pa_cons (pe_lst (pa_cons (pv 0) (pa_cons (pv 1) (pa_cons (pv 2) pa_nil)))) pa_nil)))
      (pss_cons (ps_expr (pe_call GNS hr3 (by rfl) gNS kNS bNS .nil (passes_call (takes_of rfl rfl rfl rfl) fun _ _ _ _ z => z) (pa_cons (pv 0) (pa_cons (pv 1) (pa_cons (pv 2) pa_nil)))))
      (pss_one (ps_ret (pe_call GSW hr1 (by rfl) gSW kSW bSW .nil pass0 (pa_cons (pv 0) (pa_cons (pv 1) (pa_cons (pv 2) pa_nil)))))))), ?_⟩
  have pre : ∀ {ks : List (Bool × Bool)} {T : L2.St → Hp → Prop}, Paired (PrV K H) [v1, v2, v3] ks → (ks.all (·.1) = false → ∀ H', Same H H' → E (.ref CS) none H') → (ks.all (·.1) = true → ks.all (·.2) = false → ∀ H', Same H H' → E (.ref CO) none H') → (ks.all (·.1) = true → ks.all (·.2) = true → ∀ H', Same H H' → T [some v1, some v2, some v3] H') → True := fun _ _ _ _ => trivial
  rcases h with ⟨p1, p2, p3, a, u, b, v, c, w, rfl, rfl, rfl, hP, T, q⟩ | ⟨ks, hk, h⟩ | ⟨p1, p2, p3, a, u, b, v, c, w, rfl, rfl, rfl, hP, N, q⟩
  · refine ⟨fun σ G => σ = [some (.ref p1), some (.ref p2), some (.ref p3)] ∧ Same H G, ?_, fun σ G hh => ?_⟩
    · refine ⟨_, rfl, _, rfl, _, rfl, by show 3 ≤ sizeLine; decide, fun l hl => ?_⟩
      have sl := same_upd (o := .lst [.ref p1, .ref p2, .ref p3]) hl
      exact ⟨l, _, [(true, true), (true, true), (true, true)], rfl, upd_same, .cons (pr_good (sl _ _ hP.1) T.p1) (.cons (pr_good (sl _ _ hP.2.1) T.p2) (.cons (pr_good (sl _ _ hP.2.2) T.p3) .nil)), fun z => (by cases z), fun _ z => (by cases z), fun _ _ H' s' => ⟨rfl, sl.trans s'⟩⟩
    obtain ⟨rfl, s1⟩ := hh
    refine ⟨_, rfl, _, rfl, _, rfl, p1, p2, p3, a, u, b, v, c, w, rfl, hP.same s1, fun _ H' s' => ?_, fun n => absurd ⟨T.j, T.z⟩ n⟩
    exact ⟨_, rfl, _, rfl, _, rfl, p1, p2, p3, a, u, b, v, c, w, rfl, hP.same (s1.trans s'), fun t H2 s2 ht => q t H2 ((s1.trans s').trans s2) ht⟩
  · refine ⟨fun σ G => False, ?_, fun σ G hh => hh.elim⟩
    refine ⟨_, rfl, _, rfl, _, rfl, by show 3 ≤ sizeLine; decide, fun l hl => ?_⟩
    have sl := same_upd (o := .lst [v1, v2, v3]) hl
    rcases h with ⟨e1, q⟩ | ⟨e1, e2, q⟩
    · exact ⟨l, _, ks, rfl, upd_same, prs_same sl hk, fun _ H' s' => q _ (sl.trans s'), fun z => (by rw [e1] at z; cases z), fun z => (by rw [e1] at z; cases z)⟩
    · exact ⟨l, _, ks, rfl, upd_same, prs_same sl hk, fun z => (by rw [e1] at z; cases z), fun _ _ H' s' => q _ (sl.trans s'), fun _ z => (by rw [e2] at z; cases z)⟩
  · refine ⟨fun σ G => σ = [some (.ref p1), some (.ref p2), some (.ref p3)] ∧ Same H G, ?_, fun σ G hh => ?_⟩
    · refine ⟨_, rfl, _, rfl, _, rfl, by show 3 ≤ sizeLine; decide, fun l hl => ?_⟩
      have sl := same_upd (o := .lst [.ref p1, .ref p2, .ref p3]) hl
      exact ⟨l, _, [(true, true), (true, true), (true, true)], rfl, upd_same, .cons (pr_good (sl _ _ hP.1) N.p1) (.cons (pr_good (sl _ _ hP.2.1) N.p2) (.cons (pr_good (sl _ _ hP.2.2) N.p3) .nil)), fun z => (by cases z), fun _ z => (by cases z), fun _ _ H' s' => ⟨rfl, sl.trans s'⟩⟩
    obtain ⟨rfl, s1⟩ := hh
    exact ⟨_, rfl, _, rfl, _, rfl, p1, p2, p3, a, u, b, v, c, w, rfl, hP.same s1, fun y => absurd y N.n, fun _ H' s' => q _ (s1.trans s')⟩
def spSqTX (K : PySem.W.Frag) (CT CS CO : Addr) : Sp := fun vs H Q E => ∃ x : V, vs = [x] ∧
  ((∃ a u b v c w, GoodT H x a u b v c w ∧ ∀ t H', Same H H' → SqA H' t (sqF (sqN a u b v c w)) → Q (.ref t) H') ∨ ∃ C, BadT K CT CS CO H x C ∧ ∀ H', Same H H' → E (.ref C) none H')
abbrev nSqT : List Str := ["triple"]
theorem scSqT : FnScope nSqT ["triple"] (defScope sSquareOfT) := ⟨rfl, rfl, rfl, by decide +kernel, rfl, by decide +kernel, by decide +kernel⟩
theorem ok_sqTX {fS : Addr} {fdS : FuncData} (F : FnP K "square_of_triple" sSquareOfT f fd)
    (GSO : FnOk P w K mg base (L2.CX P w) 5 fS fdS ["one", "other", "third"] (spSqOfX K CT CS CO)) (bSO : L2.Binds K fdS ["one", "other", "third"] []) (kSO : PySem.W.keepIn K (.ref fS) = true) (gSO : mg "square_of" = some (.ref fS))
    (XT : XTxt K mg "NoTriple" CT) (gisinstance : mg "isinstance" = none) (gtuple : mg "tuple" = none) (glen : mg "len" = none) : FnOk P w K mg base (L2.CX P w) 6 f fd ["triple"] (spSqTX K CT CS CO) := by
  refine F.ok scSqT (fun vs H Q E h => ?_) (fun cdv Ar outer s H vs Q E hr h => ?_)
  · obtain ⟨_, rfl, _⟩ := h
    rfl
  obtain ⟨x, rfl, h⟩ := h
  refine ⟨_, (pss_cons (ps_if (PW.pt (pw_or (pt_not (pt_val (pe_callB call_isi (by rfl) gisinstance (by decide +kernel) (pa_cons (pv 0) (pa_cons (pe_bltn (v := .ty "tuple") (by rfl) gtuple (by decide +kernel) rfl) pa_nil))))) (pw_or1 (pt_cmpR op_ne (pe_callB call_len_seq (by rfl) glen PySem.boot_len (pa_cons (pv 0) pa_nil)) pe_int (nomark _))))) (pss_one (ps_raise rfl (takes_of rfl rfl rfl rfl) (pmk_own PySem.F.excBase_ValueError XT.e XT.g XT.k (raises_own XT.b XT.t) rfl))) pss_nil)
      (pss_one (ps_ret (StX.pe_callS1 (FnOk.raw GSO bSO .nil) hr kSO (by rfl) gSO (passes_call (takes_of rfl rfl rfl rfl) fun _ _ _ _ z => z) (pv 0))))), ?_⟩
  have ne3 : ∀ {n : Nat}, n ≠ 3 → ¬ (V.int (n : Int) = V.int 3) := fun hn w => hn (by have := V.int.inj w; omega)
  have refl : ∀ {H : Hp}, Same H H := fun _ _ e => e
  rcases h with ⟨a, u, b, v, c, w, ⟨t, rfl, ⟨p1, p2, p3, ht, h1, h2, h3⟩, T⟩, q⟩ | ⟨C, hB, q⟩
  · refine ⟨_, rfl, _, _, _, _, true, rfl, .ty "tuple", .base (.tup ht), kit_ty (by decide +kernel), true, rfl, iteF ?_⟩
    refine ⟨_, rfl, t, _, rfl, .inr (SqT.of ht), rfl, _, rfl, iteNS rfl ?_⟩
    exact ⟨_, rfl, t, _, rfl, .inl (SqT.of ht), _, _, _, rfl, .inl ⟨p1, p2, p3, a, u, b, v, c, w, rfl, rfl, rfl, ⟨h1, h2, h3⟩, T, q⟩⟩
  rcases hB with ⟨rfl, ⟨ty, t1, t2⟩ | ⟨t, xs, rfl, ht, hl⟩⟩ | ⟨t, v1, v2, v3, ks, rfl, ht, hk, h⟩ | ⟨rfl, t, a, u, b, v, c, w, rfl, ⟨p1, p2, p3, ht, h1, h2, h3⟩, N⟩
  · exact ⟨_, rfl, _, _, _, _, false, rfl, .ty "tuple", t1, t2, false, rfl, iteT (iteT (q _ refl))⟩
  · refine ⟨_, rfl, _, _, _, _, true, rfl, .ty "tuple", .base (.tup ht), kit_ty (by decide +kernel), true, rfl, iteF ?_⟩
    exact ⟨_, rfl, t, _, rfl, .inr (SqT.of ht), rfl, _, rfl, iteNT (ne3 hl) (q _ refl)⟩
  · refine ⟨_, rfl, _, _, _, _, true, rfl, .ty "tuple", .base (.tup ht), kit_ty (by decide +kernel), true, rfl, iteF ?_⟩
    refine ⟨_, rfl, t, _, rfl, .inr (SqT.of ht), rfl, _, rfl, iteNS rfl ?_⟩
    refine ⟨_, rfl, t, _, rfl, .inl (SqT.of ht), _, _, _, rfl, .inr (.inl ⟨ks, hk, ?_⟩)⟩
    rcases h with ⟨e1, rfl⟩ | ⟨e1, e2, rfl⟩
    · exact .inl ⟨e1, q⟩
    · exact .inr ⟨e1, e2, q⟩
  · refine ⟨_, rfl, _, _, _, _, true, rfl, .ty "tuple", .base (.tup ht), kit_ty (by decide +kernel), true, rfl, iteF ?_⟩
    refine ⟨_, rfl, t, _, rfl, .inr (SqT.of ht), rfl, _, rfl, iteNS rfl ?_⟩
    exact ⟨_, rfl, t, _, rfl, .inl (SqT.of ht), _, _, _, rfl, .inr (.inr ⟨p1, p2, p3, a, u, b, v, c, w, rfl, rfl, rfl, ⟨h1, h2, h3⟩, N, q⟩)⟩
end
end TB
namespace TB
open TC PySem PySem.Spec PyProof.Rows L2 TCA TCX
/-! ### K18M3: alike_threes -/
theorem ways_fine : ∀ ss ∈ waysL, (∀ s ∈ ss, okS s) ∧ ss.length ≤ 5 := fun ss m => by
  have e : ∀ ss ∈ waysL, ss.all (fun s => match s with
    | .r i j => decide ((i, j) ∈ ([(0, 1), (0, 2), (1, 2)] : List (Nat × Nat)))
    | .c i j => decide ((i, j) ∈ ([(0, 1), (0, 2), (1, 2)] : List (Nat × Nat)))
    | .t => true) = true ∧ ss.length ≤ 5 := by decide +kernel
  obtain ⟨e1, e2⟩ := e ss m
  refine ⟨fun st hst => ?_, e2⟩
  have e3 := List.all_eq_true.mp e1 st hst
  cases st with
  | r i j => exact of_decide_eq_true (p := (i, j) ∈ ([(0, 1), (0, 2), (1, 2)] : List (Nat × Nat))) e3
  | c i j => exact of_decide_eq_true (p := (i, j) ∈ ([(0, 1), (0, 2), (1, 2)] : List (Nat × Nat))) e3
  | t => trivial
theorem BadT.same {K : PySem.W.Frag} {CT CS CO : Addr} {H H' : Hp} {x : V} {C : Addr} (h : BadT K CT CS CO H x C) (s : Same H H') : BadT K CT CS CO H' x C := by
  rcases h with ⟨e, ⟨ty, t1, t2⟩ | ⟨t, xs, e2, ht, hl⟩⟩ | ⟨t, v1, v2, v3, ks, e, ht, hk, h⟩ | ⟨e, t, a, u, b, v, c, w, e2, ⟨p1, p2, p3, ht, h1, h2, h3⟩, N⟩
  · exact .inl ⟨e, .inl ⟨ty, TyX.same t1 s, t2⟩⟩
  · exact .inl ⟨e, .inr ⟨t, xs, e2, s _ _ ht, hl⟩⟩
  · exact .inr (.inl ⟨t, v1, v2, v3, ks, e, s _ _ ht, prs_same s hk, h⟩)
  · exact .inr (.inr ⟨e, t, a, u, b, v, c, w, e2, ⟨p1, p2, p3, s _ _ ht, s _ _ h1, s _ _ h2, s _ _ h3⟩, N⟩)
theorem GoodT.same {H H' : Hp} {x : V} {a u b v c w : Int} (h : GoodT H x a u b v c w) (s : Same H H') : GoodT H' x a u b v c w := by
  obtain ⟨t, e, ⟨p1, p2, p3, ht, h1, h2, h3⟩, T⟩ := h
  exact ⟨t, e, ⟨p1, p2, p3, s _ _ ht, s _ _ h1, s _ _ h2, s _ _ h3⟩, T⟩
/-- what is told of two squares: the steps -/
def TellsA (H : Hp) (t : Addr) (S1 S2 : Nat → Nat → Int) : Prop := ∃ (L : Addr) (ss : List Stp), H t = some (.tup [.str "alike", .ref L, .int (mk17 (S1 0 0 + S1 0 1 + S1 0 2) (cntX ss))]) ∧ WayAt H L ss ∧ ss ∈ waysL ∧ nine (behind ss S1) = nine S2
/-- that they are unlike -/
def TellsU (H : Hp) (t : Addr) (g1 g2 : Nat → Int) : Prop := (∀ ss ∈ waysL, nine (behind ss (sqF g1)) ≠ nine (sqF g2)) ∧ ∃ (x1 x2 : Addr) (T1 T2 : Nat → Nat → Int) (m1 m2 : Int), H t = some (.tup [.str "unlike", .ref x1, .ref x2]) ∧ SqA H x1 T1 ∧ SqA H x2 T2 ∧ Lst (frmsL g1) (nine T1) m1 ∧ Lst (frmsL g2) (nine T2) m2
section
variable {P : Program} {w : World} {K : PySem.W.Frag} {mg : Str → Option Value} {base : Heap} {f : Addr} {fd : FuncData} {CT CS CO : Addr}
def spAlike (K : PySem.W.Frag) (CT CS CO : Addr) : Sp := fun vs H Q E => ∃ x y : V, vs = [x, y] ∧
  ((∃ a u b v c w a' u' b' v' c' w', GoodT H x a u b v c w ∧ GoodT H y a' u' b' v' c' w' ∧ ∀ t H', Same H H' → (TellsA H' t (sqF (sqN a u b v c w)) (sqF (sqN a' u' b' v' c' w')) ∨ TellsU H' t (sqN a u b v c w) (sqN a' u' b' v' c' w')) → Q (.ref t) H') ∨
   (∃ C, BadT K CT CS CO H x C ∧ ∀ H', Same H H' → E (.ref C) none H') ∨
   (∃ a u b v c w C, GoodT H x a u b v c w ∧ BadT K CT CS CO H y C ∧ ∀ H', Same H H' → E (.ref C) none H'))
abbrev nAlike3 : List Str := ["triple", "other", "first", "second", "steps"]
theorem scAlike3 : FnScope nAlike3 ["triple", "other"] (defScope sAlike3) := ⟨rfl, rfl, rfl, by decide +kernel, rfl, by decide +kernel, by decide +kernel⟩
set_option maxHeartbeats 0 in
theorem ok_alike {fT fB fS fW fL : Addr} {fdT fdB fdS fdW fdL : FuncData} (F : FnP K "alike_threes" sAlike3 f fd)
    (GST : FnOk P w K mg base (L2.CX P w) 6 fT fdT ["triple"] (spSqTX K CT CS CO)) (bST : L2.Binds K fdT ["triple"] []) (kST : PySem.W.keepIn K (.ref fT) = true) (gST : mg "square_of_triple" = some (.ref fT))
    (GB : FnOk P w K mg base CX0 2 fB fdB ["square", "steps"] spBehind) (bB : L2.Binds K fdB ["square", "steps"] []) (kB : PySem.W.keepIn K (.ref fB) = true) (gB : mg "square_behind" = some (.ref fB))
    (GSA : FnOk P w K mg base CX0 2 fS fdS ["square", "steps"] spSign) (bSA : L2.Binds K fdS ["square", "steps"] []) (kSA : PySem.W.keepIn K (.ref fS) = true) (gSA : mg "sign_along" = some (.ref fS))
    (GLS : FnOk P w K mg base CX0 3 fL fdL ["square"] (spLeastSq K)) (bLS : L2.Binds K fdL ["square"] []) (kLS : PySem.W.keepIn K (.ref fL) = true) (gLS : mg "least_square" = some (.ref fL))
    (GW : FnOk P w K mg base CX0 1 fW fdW [] spAllWays) (bW : L2.Binds K fdW [] []) (kW : PySem.W.keepIn K (.ref fW) = true) (gW : mg "all_ways" = some (.ref fW)) : FnOk P w K mg base (L2.CX P w) 7 f fd ["triple", "other"] (spAlike K CT CS CO) := by
  refine F.ok scAlike3 (fun vs H Q E h => ?_) (fun cdv Ar outer s H vs Q E hr h => ?_)
  · obtain ⟨_, _, rfl, _⟩ := h
    rfl
  obtain ⟨x, y, rfl, h⟩ := h
  have hr1 := hr.mono (show 1 ≤ 6 by decide)
  have hr2 := hr.mono (show 2 ≤ 6 by decide)
  have hr3 := hr.mono (show 3 ≤ 6 by decide)
  have hu := hr1.units
  refine ⟨_, (pss_cons (ps_set (i := 2) scAlike3.nd rfl (.inl rfl) (pe_call GST hr (by rfl) gST kST bST .nil (passes_call (takes_of rfl rfl rfl rfl) fun _ _ _ _ z => z) (pa_cons (pv 0) pa_nil)))
      (pss_cons (ps_set (i := 3) scAlike3.nd rfl (.inl rfl) (pe_call GST hr (by rfl) gST kST bST .nil (passes_call (takes_of rfl rfl rfl rfl) fun _ _ _ _ z => z) (pa_cons (pv 1) pa_nil)))
      (pss_cons (ps_for (passes_of rfl) rfl (pi_list (pe_call0 GW hr1 (by rfl) gW kW bW .nil pass0)) (pg_name (i := 4) scAlike3.nd rfl (.inl rfl))
        (pss_one (ps_if (pt_cmpR (op_eqD hu) (pe_call GB hr2 (by rfl) gB kB bB .nil pass0 (pa_cons (pv 2) (pa_cons (pv 4) pa_nil))) (pv 3) (nomark _)) (pss_one (ps_ret (pe_tup (pa_cons pe_str (pa_cons (pv 4) (pa_cons (pe_call GSA hr2 (by rfl) gSA kSA bSA .nil pass0 (pa_cons (pv 2) (pa_cons (pv 4) pa_nil))) pa_nil)))))) pss_nil)))
      (pss_one (ps_ret (pe_tup (pa_cons pe_str (pa_cons (pe_ix ix_tup (pe_call GLS hr3 (by rfl) gLS kLS bLS .nil pass0 (pa_cons (pv 2) pa_nil)) pe_int (fun _ _ => rfl)) (pa_cons (pe_ix ix_tup (pe_call GLS hr3 (by rfl) gLS kLS bLS .nil pass0 (pa_cons (pv 3) pa_nil)) pe_int (fun _ _ => rfl)) pa_nil))))))))), ?_⟩
  rcases h with ⟨a, u, b, v, c, w, a', u', b', v', c', w', gx, gy, q⟩ | ⟨C, hB, q⟩ | ⟨a, u, b, v, c, w, C, gx, hB, q⟩
  rotate_left
  · exact ⟨_, rfl, x, rfl, .inr ⟨C, hB, q⟩⟩
  · refine ⟨_, rfl, x, rfl, .inl ⟨a, u, b, v, c, w, gx, fun t H1 s1 _ => ?_⟩⟩
    exact ⟨_, rfl, y, rfl, .inr ⟨C, hB.same s1, fun H2 s2 => q _ (s1.trans s2)⟩⟩
  refine ⟨_, rfl, x, rfl, .inl ⟨a, u, b, v, c, w, gx, fun t1 H1 s1 hS1 => ?_⟩⟩
  refine ⟨_, rfl, y, rfl, .inl ⟨a', u', b', v', c', w', gy.same s1, fun t2 H2 s2 hS2 => ?_⟩⟩
  generalize sqN a u b v c w = g1 at *
  generalize sqN a' u' b' v' c' w' = g2 at *
  have hS1 := hS1.same s2
  refine ⟨rfl, fun l us ws H3 s3 hl lw pw hw => ?_⟩
  have s03 := (s1.trans s2).trans s3
  refine ⟨l, rfl, ⟨_, SqL.of hl⟩, for_list (xs := us.map V.ref) (fun k σ G => (∃ v4 : Option V, σ = [some x, some y, some (.ref t1), some (.ref t2), v4]) ∧ Same H3 G ∧ ∀ ss ∈ ws.take k, nine (behind ss (sqF g1)) ≠ nine (sqF g2)) ⟨⟨none, rfl⟩, fun _ _ e => e, fun ss h => by simp at h⟩ (fun k σ G _ hP => SqL.of (hP.2.1 _ _ hl)) (fun k z σ G hz hP => ?_) (fun σ G hP => ?_)⟩
  · obtain ⟨⟨v4, rfl⟩, sG, hn⟩ := hP
    rw [List.getElem?_map] at hz
    obtain ⟨z', hz', rfl⟩ := Option.map_eq_some_iff.mp hz
    have il := (List.getElem?_eq_some_iff.mp hz').1
    obtain ⟨ss, hss⟩ : ∃ ss, ws[k]? = some ss := ⟨_, List.getElem?_eq_getElem (by omega)⟩
    have mw := pw.mem_iff.mp (List.mem_of_getElem? hss)
    obtain ⟨ok, l5⟩ := ways_fine ss mw
    have hWay := (hw k z' ss hz' hss).same sG
    have gS1 := (hS1.same s3).same sG
    have gS2 := (hS2.same s3).same sG
    refine ⟨_, rfl, _, rfl, t1, z', _, ss, rfl, gS1, hWay, ok, by omega, fun b2 G2 sG2 hb => ?_⟩
    refine ⟨_, rfl, _, _, hb.dp, (gS2.same sG2).dp, sq_shaped rfl, sq_shaped rfl, decide (nine (behind ss (sqF g1)) = nine (sqF g2)), congrArg V.bl (sq_eqv rfl rfl), ?_⟩
    by_cases e : nine (behind ss (sqF g1)) = nine (sqF g2)
    · rw [decide_eq_true e]
      refine iteT ?_
      refine ⟨_, rfl, _, rfl, _, rfl, t1, z', _, ss, rfl, gS1.same sG2, hWay.same sG2, by omega, fun G3 sG3 => ?_⟩
      refine ⟨by show 3 ≤ sizeLine; decide, fun t ht => ?_⟩
      have st := same_upd (o := .tup [.str "alike", .ref z', .int (mk17 (sqF g1 0 0 + sqF g1 0 1 + sqF g1 0 2) (cntX ss))]) ht
      have sA := (sG2.trans sG3).trans st
      exact q t _ (s03.trans (sG.trans sA)) (.inl ⟨z', ss, upd_same, hWay.same sA, mw, e⟩)
    · rw [decide_eq_false e]
      refine iteF ⟨⟨_, rfl⟩, sG.trans sG2, fun s' hs' => ?_⟩
      rw [List.take_add_one, hss] at hs'
      rcases List.mem_append.mp hs' with h | h
      · exact hn s' h
      · rw [List.mem_singleton.mp h]
        exact e
  · obtain ⟨⟨v4, rfl⟩, sG, hn⟩ := hP
    rw [List.length_map, lw, List.take_length] at hn
    have gS1 := (hS1.same s3).same sG
    have gS2 := (hS2.same s3).same sG
    refine ⟨_, rfl, t1, g1, rfl, gS1, fun r1 x1 T1 m1 G2 sG2 hr1' hx1 L1 => ?_⟩
    refine ⟨r1, _, 0, _, rfl, rfl, SqT.of hr1', rfl, ?_⟩
    refine ⟨_, rfl, t2, g2, rfl, gS2.same sG2, fun r2 x2 T2 m2 G3 sG3 hr2' hx2 L2' => ?_⟩
    refine ⟨r2, _, 0, _, rfl, rfl, SqT.of hr2', rfl, ?_⟩
    refine ⟨by show 3 ≤ sizeLine; decide, fun t ht => ?_⟩
    have st := same_upd (o := .tup [.str "unlike", .ref x1, .ref x2]) ht
    exact q t _ (s03.trans (sG.trans ((sG2.trans sG3).trans st))) (.inr ⟨fun ss h => hn ss (pw.mem_iff.mpr h), x1, x2, T1, T2, m1, m2, upd_same, hx1.same (sG3.trans st), hx2.same st, L1, L2'⟩)
end
end TB
namespace TB
open TC PySem PySem.Spec PyProof.Rows L2 TCA TCX
/-- kinds and tuples stay -/
structure Keep (K : PySem.W.Frag) (H H' : Hp) : Prop where
  ty : ∀ {v : V} {t : Value}, TyX K H v t → TyX K H' v t
  tp : ∀ {a : Addr} {xs : List V}, H a = some (.tup xs) → H' a = some (.tup xs)
theorem Keep.of {K : PySem.W.Frag} {H H' : Hp} (s : Same H H') : Keep K H H' := ⟨fun h => TyX.same h s, fun h => s _ _ h⟩
theorem Keep.trans {K : PySem.W.Frag} {H H1 H2 : Hp} (s : Keep K H H1) (t : Keep K H1 H2) : Keep K H H2 := ⟨fun h => t.ty (s.ty h), fun h => t.tp (s.tp h)⟩
/-- all but a list, which stays a list -/
theorem Keep.but {K : PySem.W.Frag} {H H' : Hp} {l : Addr} {xs ys : List V} (hl : H l = some (.lst xs)) (hl' : H' l = some (.lst ys)) (s : SameBut l H H') : Keep K H H' := by
  have ne : ∀ {b : Addr} {o : HO}, H b = some o → (∀ zs, o ≠ .lst zs) → b ≠ l := fun hb hz e => by
    rw [e, hl] at hb
    exact hz _ (Option.some.inj hb).symm
  refine ⟨fun {v t} h => ?_, fun {a zs} h => s _ _ (ne h (fun _ z => by cases z)) h⟩
  cases h with
  | base b =>
    cases b with
    | non => exact .base .non
    | bl y => exact .base (.bl y)
    | int i => exact .base (.int i)
    | str y => exact .base (.str y)
    | flt y => exact .base (.flt y)
    | @lst a _ e =>
      by_cases z : a = l
      · rw [z]
        exact .base (.lst hl')
      · exact .base (.lst (s _ _ z e))
    | frz e => exact .base (.frz (s _ _ (ne e (fun _ z => by cases z)) e))
    | tup e => exact .base (.tup (s _ _ (ne e (fun _ z => by cases z)) e))
    | dK e => exact .base (.dK (s _ _ (ne e (fun _ z => by cases z)) e))
    | dT e => exact .base (.dT (s _ _ (ne e (fun _ z => by cases z)) e))
    | ins e cl ha hn htk hm => exact .base (.ins (s _ _ (ne e (fun _ z => by cases z)) e) cl ha hn htk hm)
  | byt y => exact .byt y
  | set e => exact .set (s _ _ (ne e (fun _ z => by cases z)) e)
  | kList e c => exact .kList e c
  | kTuple e c => exact .kTuple e c
  | kDict e c => exact .kDict e c
  | fTuple e => exact .fTuple (s _ _ (ne e (fun _ z => by cases z)) e)
  | fDict e => exact .fDict (s _ _ (ne e (fun _ z => by cases z)) e)
theorem Siz.keep {K : PySem.W.Frag} {H H' : Hp} {v : V} {b : Bool} (h : Siz K H v b) (s : Keep K H H') : Siz K H' v b := by
  rcases h with h | ⟨e, t, bi, bb, h1, h2⟩
  · exact .inl h
  · exact .inr ⟨e, t, bi, bb, s.ty h1, h2⟩
theorem paired_keep {K : PySem.W.Frag} {H H' : Hp} (s : Keep K H H') {xs : List V} {bs : List Bool} (h : Paired (Siz K H) xs bs) : Paired (Siz K H') xs bs := by
  induction h with
  | nil => exact .nil
  | cons r _ ih => exact .cons (r.keep s) ih
theorem penExtN {H H' : Hp} {p c : Addr} {ms : List Int} {n : Int} (h : PenAt H p c ms n) (s : LamX.ExtN H H') : PenAt H' p c ms n := by
  obtain ⟨l, h1, h2, h3⟩ := h
  exact ⟨l, s _ _ h1 (fun _ z => by cases z), s _ _ h2 (fun _ z => by cases z), h3⟩
theorem penNt {H : Hp} {p c q : Addr} {ms : List Int} {n : Int} {ps : Array Value} (h : PenAt H p c ms n) (hq : H q = some (.tbl ps)) : q ≠ p := by
  obtain ⟨l, h1, h2, h3⟩ := h
  exact fun e => by rw [e, h1] at hq; cases hq
theorem tabs_but {T : List (Addr × Str)} {H H' : Hp} {p c : Addr} {ms : List Int} {n : Int} (t : LamX.Tabs T H) (hp : PenAt H p c ms n) (s : SameBut p H H') : LamX.Tabs T H' := fun q hq => by
  obtain ⟨ps, h1, h2, h3⟩ := t q hq
  refine ⟨ps, s _ _ (penNt hp h1) h1, h2, fun pos cv hc => ?_⟩
  obtain ⟨c0, e1, e2⟩ := h3 pos cv hc
  refine ⟨c0, e1, s _ _ (fun z => ?_) e2⟩
  obtain ⟨l, g1, _, _⟩ := hp
  rw [z, g1] at e2
  unfold LamX.CodeO at e2
  cases e2
theorem Keep.extN {K : PySem.W.Frag} {H H' : Hp} (s : LamX.ExtN H H') : Keep K H H' := by
  refine ⟨fun {v t} h => ?_, fun {a xs} h => s _ _ h (fun _ z => by cases z)⟩
  cases h with
  | base b =>
    cases b with
    | non => exact .base .non
    | bl y => exact .base (.bl y)
    | int i => exact .base (.int i)
    | str y => exact .base (.str y)
    | flt y => exact .base (.flt y)
    | lst e => exact .base (.lst (s _ _ e fun _ z => by cases z))
    | frz e => exact .base (.frz (s _ _ e fun _ z => by cases z))
    | tup e => exact .base (.tup (s _ _ e fun _ z => by cases z))
    | dK e => exact .base (.dK (s _ _ e fun _ z => by cases z))
    | dT e => exact .base (.dT (s _ _ e fun _ z => by cases z))
    | ins e cl ha hn htk hm => exact .base (.ins (s _ _ e fun _ z => by cases z) cl ha hn htk hm)
  | byt y => exact .byt y
  | set e => exact .set (s _ _ e fun _ z => by cases z)
  | kList e c => exact .kList e c
  | kTuple e c => exact .kTuple e c
  | kDict e c => exact .kDict e c
  | fTuple e => exact .fTuple (s _ _ e fun _ z => by cases z)
  | fDict e => exact .fDict (s _ _ e fun _ z => by cases z)
theorem Keep.pen {K : PySem.W.Frag} {H H' : Hp} {p c : Addr} {ms : List Int} {n n' : Int} (h : PenAt H p c ms n) (h' : PenAt H' p c ms n') (s : SameBut p H H') : Keep K H H' := by
  obtain ⟨_, y1, _⟩ := h
  obtain ⟨_, y2, _⟩ := h'
  exact Keep.but y1 y2 s
theorem paired_set {α β : Type} {R : α → β → Prop} {x : α} {y : β} (r : R x y) : ∀ {xs : List α} {ys : List β} (i : Nat), Paired R xs ys → Paired R (xs.set i x) (ys.set i y)
  | _, _, _, .nil => .nil
  | _, _, 0, .cons _ t => .cons r t
  | _, _, i + 1, .cons q t => .cons q (paired_set r i t)
/-- six values in a list -/
theorem six_of {α : Type} {xs : List α} (h : xs.length = 6) : ∃ a b c d e f, xs = [a, b, c, d, e, f] := by
  match xs, h with
  | [a, b, c, d, e, f], _ => exact ⟨a, b, c, d, e, f, rfl⟩
end TB
namespace TB
set_option exponentiation.threshold 2000
open TC PySem PySem.Spec PyProof.Rows L2 TCA TCX
/-! ### K18M7: _law_wrong -/
theorem NotInt.keep {K : PySem.W.Frag} {H H' : Hp} {v : V} (h : NotInt K H v) (s : Keep K H H') : NotInt K H' v := by
  obtain ⟨t, bi, bb, h1, h2⟩ := h
  exact ⟨t, bi, bb, s.ty h1, h2⟩
theorem OffV.keep {K : PySem.W.Frag} {H H' : Hp} {n : Int} {o : V} {b : Bool} (h : OffV K H n o b) (s : Keep K H H') : OffV K H' n o b := by
  rcases h with h | ⟨e, h⟩
  · exact .inl h
  · exact .inr ⟨e, h.keep s⟩
theorem PrV.keep {K : PySem.W.Frag} {H H' : Hp} {v : V} {k : Bool × Bool} (h : PrV K H v k) (s : Keep K H H') : PrV K H' v k := by
  rcases h with ⟨p, t, o, e, hp, ht, ho⟩ | ⟨e, ty, h1, h2⟩ | ⟨e, p, xs, e2, hp, hl⟩
  · refine .inl ⟨p, t, o, e, s.tp hp, ht.keep s, fun z => ?_⟩
    obtain ⟨n, en, h⟩ := ho z
    exact ⟨n, en, h.keep s⟩
  · exact .inr (.inl ⟨e, ty, s.ty h1, h2⟩)
  · exact .inr (.inr ⟨e, p, xs, e2, s.tp hp, hl⟩)
theorem prs_keep {K : PySem.W.Frag} {H H' : Hp} (s : Keep K H H') {xs : List V} {ks : List (Bool × Bool)} (h : Paired (PrV K H) xs ks) : Paired (PrV K H') xs ks := by
  induction h with
  | nil => exact .nil
  | cons r _ ih => exact .cons (r.keep s) ih
theorem BadT.keep {K : PySem.W.Frag} {CT CS CO : Addr} {H H' : Hp} {x : V} {C : Addr} (h : BadT K CT CS CO H x C) (s : Keep K H H') : BadT K CT CS CO H' x C := by
  rcases h with ⟨e, ⟨ty, t1, t2⟩ | ⟨t, xs, e2, ht, hl⟩⟩ | ⟨t, v1, v2, v3, ks, e, ht, hk, h⟩ | ⟨e, t, a, u, b, v, c, w, e2, ⟨p1, p2, p3, ht, h1, h2, h3⟩, N⟩
  · exact .inl ⟨e, .inl ⟨ty, s.ty t1, t2⟩⟩
  · exact .inl ⟨e, .inr ⟨t, xs, e2, s.tp ht, hl⟩⟩
  · exact .inr (.inl ⟨t, v1, v2, v3, ks, e, s.tp ht, prs_keep s hk, h⟩)
  · exact .inr (.inr ⟨e, t, a, u, b, v, c, w, e2, ⟨p1, p2, p3, s.tp ht, s.tp h1, s.tp h2, s.tp h3⟩, N⟩)
theorem OddT.pr {K : PySem.W.Frag} {H : Hp} {v : V} (h : OddT K H v) : PrV K H v (false, false) := by
  rcases h with ⟨ty, h1, h2⟩ | ⟨a, xs, e, ha, hl⟩ | ⟨a, t, o, e, ha, hs⟩
  · exact .inr (.inl ⟨rfl, ty, h1, h2⟩)
  · exact .inr (.inr ⟨rfl, a, xs, e, ha, by omega⟩)
  · exact .inl ⟨a, t, o, e, ha, hs, fun z => by cases z⟩
def WordOf (CT CS CO : Addr) (wd : Str) (C : Addr) : Prop := (wd = "triple" ∧ C = CT) ∨ (wd = "size" ∧ C = CS) ∨ (wd = "offset" ∧ C = CO)
/-- a row: what is no triple, and the word of its refusal -/
def RowOk (K : PySem.W.Frag) (CT CS CO : Addr) (H : Hp) (r : Addr) : Prop := ∃ (x : V) (wd : Str) (C : Addr), H r = some (.tup [x, .str wd]) ∧ BadT K CT CS CO H x C ∧ WordOf CT CS CO wd C
theorem RowOk.keep {K : PySem.W.Frag} {CT CS CO : Addr} {H H' : Hp} {r : Addr} (h : RowOk K CT CS CO H r) (s : Keep K H H') : RowOk K CT CS CO H' r := by
  obtain ⟨x, wd, C, h1, h2, h3⟩ := h
  exact ⟨x, wd, C, s.tp h1, h2.keep s, h3⟩
theorem OddT.bad {K : PySem.W.Frag} {CT CS CO : Addr} {H : Hp} {v : V} (h : OddT K H v) : BadT K CT CS CO H v CT := by
  rcases h with h | ⟨a, xs, e, ha, hl⟩ | ⟨a, t, o, e, ha, hs⟩
  · exact .inl ⟨rfl, .inl h⟩
  · exact .inl ⟨rfl, .inr ⟨a, xs, e, ha, by omega⟩⟩
  · exact .inl ⟨rfl, .inr ⟨a, _, e, ha, by show (2 : Nat) ≠ 3; decide⟩⟩
/-- one of three pairs exchanged for what is none -/
theorem bad_at {K : PySem.W.Frag} {CT CS CO : Addr} {H : Hp} {v1 v2 v3 z : V} {k : Bool × Bool} {t : Addr} (h1 : PrV K H v1 (true, true)) (h2 : PrV K H v2 (true, true)) (h3 : PrV K H v3 (true, true)) (hz : PrV K H z k) {kk : Nat} (hk : kk < 3) (ht : H t = some (.tup ([v1, v2, v3].take kk ++ [z] ++ [v1, v2, v3].drop (kk + 1)))) :
    (k.1 = false → BadT K CT CS CO H (.ref t) CS) ∧ (k = (true, false) → BadT K CT CS CO H (.ref t) CO) := by
  have : kk = 0 ∨ kk = 1 ∨ kk = 2 := by omega
  rcases this with rfl | rfl | rfl
  · exact ⟨fun e => .inr (.inl ⟨t, _, _, _, [k, (true, true), (true, true)], rfl, ht, .cons hz (.cons h2 (.cons h3 .nil)), .inl ⟨by simp [e], rfl⟩⟩), fun e => .inr (.inl ⟨t, _, _, _, [k, (true, true), (true, true)], rfl, ht, .cons hz (.cons h2 (.cons h3 .nil)), .inr ⟨by simp [e], by simp [e], rfl⟩⟩)⟩
  · exact ⟨fun e => .inr (.inl ⟨t, _, _, _, [(true, true), k, (true, true)], rfl, ht, .cons h1 (.cons hz (.cons h3 .nil)), .inl ⟨by simp [e], rfl⟩⟩), fun e => .inr (.inl ⟨t, _, _, _, [(true, true), k, (true, true)], rfl, ht, .cons h1 (.cons hz (.cons h3 .nil)), .inr ⟨by simp [e], by simp [e], rfl⟩⟩)⟩
  · exact ⟨fun e => .inr (.inl ⟨t, _, _, _, [(true, true), (true, true), k], rfl, ht, .cons h1 (.cons h2 (.cons hz .nil)), .inl ⟨by simp [e], rfl⟩⟩), fun e => .inr (.inl ⟨t, _, _, _, [(true, true), (true, true), k], rfl, ht, .cons h1 (.cons h2 (.cons hz .nil)), .inr ⟨by simp [e], by simp [e], rfl⟩⟩)⟩
/-- the pair at a place -/
theorem pair_at {H : Hp} {p1 p2 p3 : Addr} {a u b v c w : Int} (hp : Prs3 H p1 p2 p3 a u b v c w) (T : Tri a u b v c w) {kk : Nat} (hk : kk < 3) : ∃ (r : Addr) (A U : Int), ([.ref p1, .ref p2, .ref p3] : List V)[kk]? = some (.ref r) ∧ H r = some (pairO (A, U)) ∧ PairP A U ∧
    ∀ (H' : Hp) (t z : Addr) (U' : Int), Same H H' → H' t = some (.tup (([.ref p1, .ref p2, .ref p3] : List V).take kk ++ [.ref z] ++ ([.ref p1, .ref p2, .ref p3] : List V).drop (kk + 1))) → H' z = some (pairO (A, U')) → PairP A U' → U' ≠ U → ∀ (K : PySem.W.Frag) (CT CS CO : Addr), BadT K CT CS CO H' (.ref t) CT := by
  have : kk = 0 ∨ kk = 1 ∨ kk = 2 := by omega
  have z0 := T.z
  rcases this with rfl | rfl | rfl
  · exact ⟨p1, a, u, rfl, hp.1, T.p1, fun H' t z U' s ht hz P n K CT CS CO => .inr (.inr ⟨rfl, t, a, U', b, v, c, w, rfl, ⟨z, p2, p3, ht, hz, s _ _ hp.2.1, s _ _ hp.2.2⟩, ⟨P, T.p2, T.p3, fun f => n (by have := f.2; omega)⟩⟩)⟩
  · exact ⟨p2, b, v, rfl, hp.2.1, T.p2, fun H' t z U' s ht hz P n K CT CS CO => .inr (.inr ⟨rfl, t, a, u, b, U', c, w, rfl, ⟨p1, z, p3, ht, s _ _ hp.1, hz, s _ _ hp.2.2⟩, ⟨T.p1, P, T.p3, fun f => n (by have := f.2; omega)⟩⟩)⟩
  · exact ⟨p3, c, w, rfl, hp.2.2, T.p3, fun H' t z U' s ht hz P n K CT CS CO => .inr (.inr ⟨rfl, t, a, u, b, v, c, U', rfl, ⟨p1, p2, z, ht, s _ _ hp.1, s _ _ hp.2.1, hz⟩, ⟨T.p1, T.p2, P, fun f => n (by have := f.2; omega)⟩⟩)⟩
theorem off_no {A U : Int} (h : ¬ (-A ≤ U ∧ U ≤ A ∧ (A - U) % 2 ≠ 1)) : offB A U = false := by
  unfold offB
  by_cases h1 : -A ≤ U
  · by_cases h2 : U ≤ A
    · have h3 : (A - U) % 2 = 1 := by omega
      rw [decide_eq_true h1, decide_eq_true h2, decide_eq_true h3]
      rfl
    · rw [decide_eq_true h1, decide_eq_false h2]
      rfl
  · rw [decide_eq_false h1]
    rfl
theorem _root_.TC.Prs3.of {H H' : Hp} {p1 p2 p3 : Addr} {a u b v c w : Int} (h : Prs3 H p1 p2 p3 a u b v c w) (s : ∀ {x : Addr} {zs : List V}, H x = some (.tup zs) → H' x = some (.tup zs)) : Prs3 H' p1 p2 p3 a u b v c w := ⟨s h.1, s h.2.1, s h.2.2⟩
theorem pen_upd {H0 H : Hp} {p c q : Addr} {ms : List Int} {n0 n : Int} {o : HO} (h0 : PenAt H0 p c ms n0) (h : PenAt H p c ms n) (hq : H0 q = none) : PenAt (upd H q o) p c ms n := by
  obtain ⟨l0, a0, b0, _⟩ := h0
  obtain ⟨l, a, b, d⟩ := h
  refine ⟨l, ?_, ?_, d⟩
  · rw [upd_ne (fun z => by rw [z, hq] at a0; cases a0)]
    exact a
  · rw [upd_ne (fun z => by rw [z, hq] at b0; cases b0)]
    exact b
section
variable {P : Program} {w : World} {K : PySem.W.Frag} {mg : Str → Option Value} {base : Heap} {f : Addr} {fd : FuncData} {CT CS CO : Addr}
def spWrong (K : PySem.W.Frag) (CT CS CO : Addr) : Sp := fun vs H Q _ => ∃ (p c tp : Addr) (ms : List Int) (n a u b v d w : Int), vs = [.ref p, .ref tp] ∧ PenAt H p c ms n ∧ 0 ≤ n ∧ n ≤ 600000 ∧ Tri a u b v d w ∧ ThreeAt H tp (a, u) (b, v) (d, w) ∧
  ∀ (r : Addr) (n' : Int) H', RowOk K CT CS CO H' r → n ≤ n' → n' ≤ n + 10 → PenAt H' p c ms n' → SameBut p H H' → Q (.ref r) H'
abbrev nWrongL : List Str := ["_law_pen_here", "_law_pairs_here", "_law_at", "_law_some", "_law_far"]
theorem scWrongL : FnScope nWrongL ["_law_pen_here", "_law_pairs_here"] (defScope sWrongL) := ⟨rfl, rfl, rfl, by decide +kernel, rfl, by decide +kernel, by decide +kernel⟩
set_option maxHeartbeats 0 in
theorem ok_wrongL {fD fO : Addr} {fdD fdO : FuncData} (F : FnP K "_law_wrong" sWrongL f fd)
    (GD : FnOk P w K mg base CX0 1 fD fdD ["_law_pen_here", "_law_many"] spDraw) (bD : L2.Binds K fdD ["_law_pen_here", "_law_many"] []) (kD : PySem.W.keepIn K (.ref fD) = true) (gD : mg "_law_draw" = some (.ref fD))
    (GOdd : FnOk P w K mg base CX0 2 fO fdO ["_law_pen_here"] (spOddL K)) (bOdd : L2.Binds K fdO ["_law_pen_here"] []) (kOdd : PySem.W.keepIn K (.ref fO) = true) (gOdd : mg "_law_odd" = some (.ref fO))
    (glist : mg "list" = none) (glen : mg "len" = none) (gint : mg "int" = none) : FnOk P w K mg base CX0 3 f fd ["_law_pen_here", "_law_pairs_here"] (spWrong K CT CS CO) := by
  refine F.ok scWrongL (fun vs H Q E h => ?_) (fun cdv A outer s H vs Q E hr h => ?_)
  · obtain ⟨_, _, _, _, _, _, _, _, _, _, _, rfl, _⟩ := h
    rfl
  obtain ⟨p, c, tp, ms, n, a, u, b, v, d, w, rfl, pen, n0, n1, T, hT, q⟩ := h
  have hr1 := hr.mono (show 1 ≤ 2 by decide)
  refine ⟨_, PSs.nox (C8.pss_cut (ps_set (i := 2) scWrongL.nd rfl (.inl rfl) (pe_call GD hr1 (by rfl) gD kD bD .nil pass0 (pa_cons (pv 0) (pa_cons pe_int pa_nil))))
      (C8.pss_cut (ps_set (i := 3) scWrongL.nd rfl (.inl rfl) (pe_lst (pa_cons (pe_tup (pa_cons (pe_call GOdd hr (by rfl) gOdd kOdd bOdd .nil pass0 (pa_cons (pv 0) pa_nil)) (pa_cons pe_str pa_nil))) (pa_cons (pe_tup (pa_cons (pe_callTy call_list_of (by rfl) glist (by decide +kernel) (pa_cons (pv 1) pa_nil)) (pa_cons pe_str pa_nil))) (pa_cons (pe_tup (pa_cons (pe_slice sl_tupS (pv 1) po_none (po_some pe_int)) (pa_cons pe_str pa_nil))) (pa_cons (pe_tup (pa_cons (pe_op op_catS (pv 1) (pe_slice sl_tupS (pv 1) po_none (po_some pe_int))) (pa_cons pe_str pa_nil))) pa_nil))))))
      (C8.pss_cut (ps_expr (pe_bm PySem.F.plainAttrs_list PySem.F.slot_list_append PySem.F.type_list_append mt_append (pv 3) (pa_cons (pe_tup (pa_cons (pe_op op_catS (pe_op op_catS (pe_slice sl_tupS (pv 1) po_none (po_some (pv 2))) (pe_tup (pa_cons (pe_call GOdd hr (by rfl) gOdd kOdd bOdd .nil pass0 (pa_cons (pv 0) pa_nil)) pa_nil))) (pe_slice sl_tupS (pv 1) (po_some (pe_op op_add (pv 2) pe_int)) po_none)) (pa_cons pe_str pa_nil))) pa_nil)))
      (C8.pss_cut (ps_expr (pe_bm PySem.F.plainAttrs_list PySem.F.slot_list_append PySem.F.type_list_append mt_append (pv 3) (pa_cons (pe_tup (pa_cons (pe_op op_catS (pe_op op_catS (pe_slice sl_tupS (pv 1) po_none (po_some (pv 2))) (pe_tup (pa_cons (pe_tup (pa_cons pe_int (pa_cons pe_int pa_nil))) pa_nil))) (pe_slice sl_tupS (pv 1) (po_some (pe_op op_add (pv 2) pe_int)) po_none)) (pa_cons pe_str pa_nil))) pa_nil)))
      (C8.pss_cut (ps_expr (pe_bm PySem.F.plainAttrs_list PySem.F.slot_list_append PySem.F.type_list_append mt_append (pv 3) (pa_cons (pe_tup (pa_cons (pe_op op_catS (pe_op op_catS (pe_slice sl_tupS (pv 1) po_none (po_some (pv 2))) (pe_tup (pa_cons (pe_tup (pa_cons (pe_ix ix_tup (pe_ix ix_tup (pv 1) (pv 2) (fun _ _ => rfl)) pe_int (fun _ _ => rfl)) (pa_cons (pe_op op_add (pe_ix ix_tup (pe_ix ix_tup (pv 1) (pv 2) (fun _ _ => rfl)) pe_int (fun _ _ => rfl)) pe_int) pa_nil))) pa_nil))) (pe_slice sl_tupS (pv 1) (po_some (pe_op op_add (pv 2) pe_int)) po_none)) (pa_cons pe_str pa_nil))) pa_nil)))
      (C8.pss_cut (ps_expr (pe_bm PySem.F.plainAttrs_list PySem.F.slot_list_append PySem.F.type_list_append mt_append (pv 3) (pa_cons (pe_tup (pa_cons (pe_op op_catS (pe_op op_catS (pe_slice sl_tupS (pv 1) po_none (po_some (pv 2))) (pe_tup (pa_cons (pe_tup (pa_cons (pe_ix ix_tup (pe_ix ix_tup (pv 1) (pv 2) (fun _ _ => rfl)) pe_int (fun _ _ => rfl)) (pa_cons (pe_op op_add (pe_ix ix_tup (pe_ix ix_tup (pv 1) (pv 2) (fun _ _ => rfl)) pe_int (fun _ _ => rfl)) pe_int) pa_nil))) pa_nil))) (pe_slice sl_tupS (pv 1) (po_some (pe_op op_add (pv 2) pe_int)) po_none)) (pa_cons pe_str pa_nil))) pa_nil)))
      (C8.pss_cut (ps_set (i := 4) scWrongL.nd rfl (.inl rfl) (pe_op op_add (pe_ix ix_tup (pe_ix ix_tup (pv 1) (pv 2) (fun _ _ => rfl)) pe_int (fun _ _ => rfl)) (pe_ix ix_list (pe_lst (pa_cons pe_int (pa_cons (pe_un un_neg pe_int) pa_nil))) (pe_callTy call_int1 (by rfl) gint (by decide +kernel) (pa_cons (pe_cmpR op_eq (pe_ix ix_tup (pe_ix ix_tup (pv 1) (pv 2) (fun _ _ => rfl)) pe_int (fun _ _ => rfl)) (pe_ix ix_tup (pe_ix ix_tup (pv 1) (pv 2) (fun _ _ => rfl)) pe_int (fun _ _ => rfl)) (nomark _)) pa_nil)) (fun _ _ => rfl))))
      (C8.pss_cut (ps_if (pt_cmpR op_gt (pe_ix ix_tup (pe_ix ix_tup (pv 1) (pv 2) (fun _ _ => rfl)) pe_int (fun _ _ => rfl)) pe_int (nomark _)) (pss_one (ps_expr (pe_bm PySem.F.plainAttrs_list PySem.F.slot_list_append PySem.F.type_list_append mt_append (pv 3) (pa_cons (pe_tup (pa_cons (pe_op op_catS (pe_op op_catS (pe_slice sl_tupS (pv 1) po_none (po_some (pv 2))) (pe_tup (pa_cons (pe_tup (pa_cons (pe_ix ix_tup (pe_ix ix_tup (pv 1) (pv 2) (fun _ _ => rfl)) pe_int (fun _ _ => rfl)) (pa_cons (pv 4) pa_nil))) pa_nil))) (pe_slice sl_tupS (pv 1) (po_some (pe_op op_add (pv 2) pe_int)) po_none)) (pa_cons pe_str pa_nil))) pa_nil)))) pss_nil)
      (pss_one (ps_ret (pe_ix ix_list (pv 3) (pe_call GD hr1 (by rfl) gD kD bD .nil pass0 (pa_cons (pv 0) (pa_cons (pe_callB call_len_seq (by rfl) glen PySem.boot_len (pa_cons (pv 3) pa_nil)) pa_nil))) (fun _ _ => rfl)))))))))))), ?_⟩
  -- begin wrong
  have pen0 := pen
  have pq : ∀ {H' : Hp} {x : Addr} {zs : List V}, SameBut p H H' → H x = some (.tup zs) → H' x = some (.tup zs) := fun {H' x zs} sb e => sb _ _ (fun z => by
    obtain ⟨l, hl, _⟩ := pen0
    rw [z, hl] at e
    cases e) e
  obtain ⟨p1, p2, p3, htp, hp1, hp2, hp3⟩ := hT
  have hP : Prs3 H p1 p2 p3 a u b v d w := ⟨hp1, hp2, hp3⟩
  obtain ⟨xs, exs⟩ : ∃ xs : List V, xs = [.ref p1, .ref p2, .ref p3] := ⟨_, rfl⟩
  have lxs : xs.length = 3 := by rw [exs]; rfl
  rw [← exs] at htp
  have cl : ∀ (ys : List V) (x y : Option Int), (cutV ys x y).length ≤ ys.length := fun ys x y => cutV_length ys x y
  have sl : (200 : Nat) ≤ sizeLine := by decide
  refine ⟨fun σ G => ∃ (kk : Nat) (m : Int), σ = [some (.ref p), some (.ref tp), some (.int (kk : Int)), none, none] ∧ kk < 3 ∧ PenAt G p c ms m ∧ n ≤ m ∧ m ≤ n + 1 ∧ SameBut p H G, ⟨_, rfl, p, c, ms, n, 3, rfl, pen, n0, by omega, by decide, by decide, fun k n' H' c0 c1 w0 w1 pen1 s1 => ⟨k.toNat, n', by rw [Int.toNat_of_nonneg c0]; rfl, by omega, pen1, w0, w1, s1⟩⟩, fun σ G hh => ?_⟩
  obtain ⟨kk, m, rfl, hk, pen, m0, m1, sb⟩ := hh
  obtain ⟨r0, A0, U0, hix, hr0, hAU, hfar⟩ := pair_at hP T hk
  have k1' : ((kk : Nat) : Int) + 1 = ((kk + 1 : Nat) : Int) := by omega
  have ix : atI xs (kk : Int) = some (.ref r0) := by rw [exs]; exact atI_nat hix
  have app : ∀ {M r : Addr} {rs : List Addr} {m m' : Int} {G G' : Hp} {j : Nat} {e : Int} {T' : Hp → Prop}, G M = some (.lst (rs.map V.ref)) → H M = none → rs.length = j → j ≤ 9 → PenAt G p c ms m → PenAt G' p c ms m' → Keep K G G' → G' M = some (.lst (rs.map V.ref)) → SameBut p H G' → n ≤ m' → m' ≤ n + e → (∀ r ∈ rs, RowOk K CT CS CO G r) → RowOk K CT CS CO G' r →
      (∀ H2, (∃ (rs' : List Addr), PenAt H2 p c ms m' ∧ SameBut p H H2 ∧ H2 M = some (.lst (rs'.map V.ref)) ∧ rs'.length = j + 1 ∧ ∀ r ∈ rs', RowOk K CT CS CO H2 r) → T' H2) → rAppend (.ref M) [.ref r] G' fun _ H2 => T' H2 := fun {M r rs m m' G G' j e T'} hM hMn hl j9 pen pen' kp hM' sb' a1 a2 hR row fin => by
    refine ⟨M, _, _, rfl, rfl, hM', by rw [List.length_map, sizeLine_eq]; omega, fin _ ⟨rs ++ [r], pen_upd pen0 pen' hMn, fun b o nb e => ?_, by rw [upd_same, List.map_append]; rfl, by rw [List.length_append, hl]; rfl, fun r' hr' => ?_⟩⟩
    · rw [upd_ne (fun z => by rw [z, hMn] at e; cases e)]
      exact sb' b o nb e
    · have k2 : Keep K G' (upd G' M (.lst (rs.map V.ref ++ [V.ref r]))) := Keep.but hM' upd_same (fun b o nb e => by rw [upd_ne nb]; exact e)
      rcases List.mem_append.mp hr' with h | h
      · exact ((hR r' h).keep kp).keep k2
      · rw [List.mem_singleton.mp h]
        exact row.keep k2
  refine ⟨fun σ G => ∃ (M : Addr) (rs : List Addr) (m : Int), σ = [some (.ref p), some (.ref tp), some (.int (kk : Int)), some (.ref M), none] ∧ PenAt G p c ms m ∧ n ≤ m ∧ m ≤ n + 2 ∧ SameBut p H G ∧ H M = none ∧ G M = some (.lst (rs.map V.ref)) ∧ rs.length = 4 ∧ ∀ r ∈ rs, RowOk K CT CS CO G r, ?_, fun σ G hh => ?_⟩
  · refine ⟨_, rfl, p, c, ms, m, rfl, pen, by omega, by omega, fun zv m' G1 hz x0 x1 pen' s1 => ?_⟩
    have sb1 := sb.trans s1
    refine ⟨by show 2 ≤ sizeLine; decide, fun r1 hr1' => ?_⟩
    have a1 := same_upd (o := .tup [zv, .str "triple"]) hr1'
    have b1 := upd_same (H := G1) (a := r1) (o := .tup [zv, .str "triple"])
    have T1 := a1 _ _ (pq sb1 htp)
    refine ⟨_, rfl, tp, _, rfl, .inr (SqT.of T1), fun l hl => ?_⟩
    have a2 := same_upd (o := .lst xs) hl
    have b2 := upd_same (H := upd G1 r1 (.tup [zv, .str "triple"])) (a := l) (o := .lst xs)
    have T2 := a2 _ _ T1
    generalize upd (upd G1 r1 (.tup [zv, .str "triple"])) l (.lst xs) = G2 at a2 b2 T2 ⊢
    refine ⟨by show 2 ≤ sizeLine; decide, fun r2 hr2' => ?_⟩
    have a3 := same_upd (o := .tup [.ref l, .str "triple"]) hr2'
    have b3 := upd_same (H := G2) (a := r2) (o := .tup [.ref l, .str "triple"])
    have T3 := a3 _ _ T2
    generalize upd G2 r2 (.tup [.ref l, .str "triple"]) = G3 at a3 b3 T3 ⊢
    refine ⟨_, rfl, 2, rfl, tp, _, rfl, T3, fun q1 G4 a4 b4 => ?_⟩
    refine ⟨by show 2 ≤ sizeLine; decide, fun r3 hr3' => ?_⟩
    have a5 := same_upd (o := .tup [.ref q1, .str "triple"]) hr3'
    have b5 := upd_same (H := G4) (a := r3) (o := .tup [.ref q1, .str "triple"])
    have T5 := a5 _ _ (a4 _ _ T3)
    generalize upd G4 r3 (.tup [.ref q1, .str "triple"]) = G5 at a5 b5 T5 ⊢
    refine ⟨_, rfl, _, rfl, 1, rfl, tp, _, rfl, T5, fun q2 G6 a6 b6 => ?_⟩
    refine ⟨tp, q2, _, _, rfl, rfl, a6 _ _ T5, b6, ?_, fun q3 G7 a7 b7 => ?_⟩
    · have := cl xs none (some 1)
      omega
    refine ⟨by show 2 ≤ sizeLine; decide, fun r4 hr4' => ?_⟩
    have a8 := same_upd (o := .tup [.ref q3, .str "triple"]) hr4'
    have b8 := upd_same (H := G7) (a := r4) (o := .tup [.ref q3, .str "triple"])
    generalize upd G7 r4 (.tup [.ref q3, .str "triple"]) = G8 at a8 b8 ⊢
    refine ⟨by show 4 ≤ sizeLine; decide, fun M hM => ?_⟩
    have a9 := same_upd (o := .lst (([r1, r2, r3, r4] : List Addr).map V.ref)) hM
    have t78 := a7.trans (a8.trans a9)
    have t58 := a6.trans t78
    have t48 := a5.trans t58
    have t38 := a4.trans t48
    have t28 := a3.trans t38
    have t18 := a2.trans t28
    have t08 := a1.trans t18
    have pen8 := pen'.same (a1.trans (a2.trans (a3.trans (a4.trans (a5.trans (a6.trans (a7.trans a8)))))))
    have sb8 := sb1.trans (Same.but (a1.trans (a2.trans (a3.trans (a4.trans (a5.trans (a6.trans (a7.trans a8))))))))
    have hMn : H M = none := by
      cases e : H M with
      | none => rfl
      | some o =>
        have := sb8 M o (PenAt.ne pen8 hM) e
        rw [hM] at this
        cases this
    refine ⟨M, [r1, r2, r3, r4], m', rfl, pen8.same a9, by omega, by omega, sb8.trans (Same.but a9), hMn, upd_same, rfl, fun r hr' => ?_⟩
    simp only [List.mem_cons, List.not_mem_nil, or_false] at hr'
    rcases hr' with rfl | rfl | rfl | rfl
    · exact ⟨_, _, _, t18 _ _ b1, (OddT.bad hz).keep (Keep.of t08), .inl ⟨rfl, rfl⟩⟩
    · exact ⟨_, _, _, t38 _ _ b3, .inl ⟨rfl, .inl ⟨_, .base (.lst (t28 _ _ b2)), kit_ty (by decide +kernel)⟩⟩, .inl ⟨rfl, rfl⟩⟩
    · exact ⟨_, _, _, t58 _ _ b5, .inl ⟨rfl, .inr ⟨q1, _, rfl, t48 _ _ b4, by rw [exs]; show (2 : Nat) ≠ 3; decide⟩⟩, .inl ⟨rfl, rfl⟩⟩
    · exact ⟨_, _, _, a9 _ _ b8, .inl ⟨rfl, .inr ⟨q3, _, rfl, (a8.trans a9) _ _ b7, by rw [exs]; show (4 : Nat) ≠ 3; decide⟩⟩, .inl ⟨rfl, rfl⟩⟩
  obtain ⟨M, rs, m, rfl, pen, m0, m1, sb, hMn, hM, hl, hR⟩ := hh
  refine ⟨fun σ G => ∃ (M : Addr) (rs : List Addr) (m : Int), σ = [some (.ref p), some (.ref tp), some (.int (kk : Int)), some (.ref M), none] ∧ PenAt G p c ms m ∧ n ≤ m ∧ m ≤ n + 3 ∧ SameBut p H G ∧ H M = none ∧ G M = some (.lst (rs.map V.ref)) ∧ rs.length = 5 ∧ ∀ r ∈ rs, RowOk K CT CS CO G r, ?_, fun σ G hh => ?_⟩
  · refine ⟨_, rfl, .inl ⟨rfl, _, SqL.of hM⟩, ?_⟩
    refine ⟨_, rfl, _, rfl, (kk : Int), rfl, tp, _, rfl, pq sb htp, fun q1 G1 t1 hq1 => ?_⟩
    refine ⟨_, rfl, p, c, ms, m, rfl, pen.same t1, by omega, by omega, fun zv m' Gz hz x0 x1 pen' s' => ?_⟩
    have sbz := (sb.trans (Same.but t1)).trans s'
    have kz : Keep K G Gz := (Keep.of t1).trans (Keep.pen (pen.same t1) pen' s')
    have hq1z : Gz q1 = some (.tup (cutV xs none (some (kk : Int)))) := (Keep.pen (K := K) (pen.same t1) pen' s').tp hq1
    have hMz := s' _ _ (PenAt.ne pen0 hMn) (t1 _ _ hM)
    refine ⟨by show 1 ≤ sizeLine; decide, fun u' hu' => ?_⟩
    have z1 := same_upd (o := .tup [zv]) hu'
    refine ⟨q1, u', _, _, rfl, rfl, z1 _ _ hq1z, upd_same, ?_, fun q2 G2 t2 hq2 => ?_⟩
    · have := cl xs none (some (kk : Int))
      show _ + 1 ≤ _
      omega
    refine ⟨_, rfl, _, rfl, (kk : Int), 1, rfl, rfl, _, rfl, tp, _, rfl, (z1.trans t2) _ _ (pq sbz htp), fun q3 G3 t3 hq3 => ?_⟩
    refine ⟨q2, q3, _, _, rfl, rfl, t3 _ _ hq2, hq3, ?_, fun q4 G4 t4 hq4 => ?_⟩
    · have := cl xs none (some (kk : Int))
      have := cl xs (some ((kk : Int) + 1)) none
      rw [List.length_append]
      show _ + 1 + _ ≤ _
      omega
    rw [k1', cut_take, cut_drop, exs] at hq4
    refine ⟨by show 2 ≤ sizeLine; decide, fun r hr' => ?_⟩
    have zr := same_upd (o := .tup [.ref q4, .str "size"]) hr'
    have sZ := z1.trans (t2.trans (t3.trans (t4.trans zr)))
    have hq4' := zr _ _ hq4
    have hrr := upd_same (H := G4) (a := r) (o := .tup [V.ref q4, .str "size"])
    have hQz : Prs3 _ p1 p2 p3 a u b v d w := (hP.of (pq sbz)).same sZ
    have row : RowOk K CT CS CO _ r := ⟨_, _, _, hrr, (bad_at (k := (false, false)) (pr_good hQz.1 T.p1) (pr_good hQz.2.1 T.p2) (pr_good hQz.2.2 T.p3) ((hz.pr).keep (Keep.of sZ)) hk hq4').1 rfl, .inr (.inl ⟨rfl, rfl⟩)⟩
    refine app (e := 3) hM hMn hl (by omega) pen (pen'.same sZ) (kz.trans (Keep.of sZ)) (sZ _ _ hMz) (sbz.trans (Same.but sZ)) (by omega) (by omega)  hR row (fun H2 hh2 => ?_)
    obtain ⟨rs', g1, g2, g3, g4, g5⟩ := hh2
    exact ⟨M, rs', _, rfl, g1, by omega, by omega, g2, hMn, g3, g4, g5⟩
  obtain ⟨M, rs, m, rfl, pen, m0, m1, sb, hMn, hM, hl, hR⟩ := hh
  refine ⟨fun σ G => ∃ (M : Addr) (rs : List Addr) (m : Int), σ = [some (.ref p), some (.ref tp), some (.int (kk : Int)), some (.ref M), none] ∧ PenAt G p c ms m ∧ n ≤ m ∧ m ≤ n + 3 ∧ SameBut p H G ∧ H M = none ∧ G M = some (.lst (rs.map V.ref)) ∧ rs.length = 6 ∧ ∀ r ∈ rs, RowOk K CT CS CO G r, ?_, fun σ G hh => ?_⟩
  · refine ⟨_, rfl, .inl ⟨rfl, _, SqL.of hM⟩, ?_⟩
    refine ⟨_, rfl, _, rfl, (kk : Int), rfl, tp, _, rfl, pq sb htp, fun q1 G1 t1 hq1 => ?_⟩
    refine ⟨by show 2 ≤ sizeLine; decide, fun zz hzz => ?_⟩
    have tz := same_upd (o := .tup [.int 41, .int 1]) hzz
    have hzt := upd_same (H := G1) (a := zz) (o := .tup [.int 41, .int 1])
    have pen' := (pen.same t1).same tz
    have sbz := (sb.trans (Same.but t1)).trans (Same.but tz)
    have kz : Keep K G _ := (Keep.of t1).trans (Keep.of tz)
    have hq1z := tz _ _ hq1
    have hMz := tz _ _ (t1 _ _ hM)
    refine ⟨by show 1 ≤ sizeLine; decide, fun u' hu' => ?_⟩
    have z1 := same_upd (o := .tup [.ref zz]) hu'
    refine ⟨q1, u', _, _, rfl, rfl, z1 _ _ hq1z, upd_same, ?_, fun q2 G2 t2 hq2 => ?_⟩
    · have := cl xs none (some (kk : Int))
      show _ + 1 ≤ _
      omega
    refine ⟨_, rfl, _, rfl, (kk : Int), 1, rfl, rfl, _, rfl, tp, _, rfl, (z1.trans t2) _ _ (pq sbz htp), fun q3 G3 t3 hq3 => ?_⟩
    refine ⟨q2, q3, _, _, rfl, rfl, t3 _ _ hq2, hq3, ?_, fun q4 G4 t4 hq4 => ?_⟩
    · have := cl xs none (some (kk : Int))
      have := cl xs (some ((kk : Int) + 1)) none
      rw [List.length_append]
      show _ + 1 + _ ≤ _
      omega
    rw [k1', cut_take, cut_drop, exs] at hq4
    refine ⟨by show 2 ≤ sizeLine; decide, fun r hr' => ?_⟩
    have zr := same_upd (o := .tup [.ref q4, .str "size"]) hr'
    have sZ := z1.trans (t2.trans (t3.trans (t4.trans zr)))
    have hq4' := zr _ _ hq4
    have hrr := upd_same (H := G4) (a := r) (o := .tup [V.ref q4, .str "size"])
    have hQz : Prs3 _ p1 p2 p3 a u b v d w := (hP.of (pq sbz)).same sZ
    have row : RowOk K CT CS CO _ r := ⟨_, _, _, hrr, (bad_at (k := (false, false)) (pr_good hQz.1 T.p1) (pr_good hQz.2.1 T.p2) (pr_good hQz.2.2 T.p3) (PrV.same (.inl ⟨zz, .int 41, .int 1, rfl, hzt, .inl ⟨41, rfl, rfl⟩, fun e => by cases e⟩) sZ) hk hq4').1 rfl, .inr (.inl ⟨rfl, rfl⟩)⟩
    refine app (e := 3) hM hMn hl (by omega) pen (pen'.same sZ) (kz.trans (Keep.of sZ)) (sZ _ _ hMz) (sbz.trans (Same.but sZ)) (by omega) (by omega)  hR row (fun H2 hh2 => ?_)
    obtain ⟨rs', g1, g2, g3, g4, g5⟩ := hh2
    exact ⟨M, rs', _, rfl, g1, by omega, by omega, g2, hMn, g3, g4, g5⟩
  obtain ⟨M, rs, m, rfl, pen, m0, m1, sb, hMn, hM, hl, hR⟩ := hh
  refine ⟨fun σ G => ∃ (M : Addr) (rs : List Addr) (m : Int), σ = [some (.ref p), some (.ref tp), some (.int (kk : Int)), some (.ref M), none] ∧ PenAt G p c ms m ∧ n ≤ m ∧ m ≤ n + 3 ∧ SameBut p H G ∧ H M = none ∧ G M = some (.lst (rs.map V.ref)) ∧ rs.length = 7 ∧ ∀ r ∈ rs, RowOk K CT CS CO G r, ?_, fun σ G hh => ?_⟩
  · refine ⟨_, rfl, .inl ⟨rfl, _, SqL.of hM⟩, ?_⟩
    refine ⟨_, rfl, _, rfl, (kk : Int), rfl, tp, _, rfl, pq sb htp, fun q1 G1 t1 hq1 => ?_⟩
    have e0 := t1 _ _ (pq sb htp)
    have er := t1 _ _ (pq sb hr0)
    refine ⟨_, rfl, _, rfl, tp, _, _, _, rfl, rfl, SqT.of e0, ix, r0, _, 0, _, rfl, rfl, SqT.of er, rfl, ?_⟩
    refine ⟨_, rfl, _, rfl, tp, _, _, _, rfl, rfl, SqT.of e0, ix, r0, _, 0, _, rfl, rfl, SqT.of er, rfl, _, _, rfl, rfl, ?_⟩
    refine ⟨by show 2 ≤ sizeLine; decide, fun zz hzz => ?_⟩
    have tz := same_upd (o := .tup [.int A0, .int (A0 + 2)]) hzz
    have hzt := upd_same (H := G1) (a := zz) (o := .tup [.int A0, .int (A0 + 2)])
    have pen' := (pen.same t1).same tz
    have sbz := (sb.trans (Same.but t1)).trans (Same.but tz)
    have kz : Keep K G _ := (Keep.of t1).trans (Keep.of tz)
    have hq1z := tz _ _ hq1
    have hMz := tz _ _ (t1 _ _ hM)
    refine ⟨by show 1 ≤ sizeLine; decide, fun u' hu' => ?_⟩
    have z1 := same_upd (o := .tup [.ref zz]) hu'
    refine ⟨q1, u', _, _, rfl, rfl, z1 _ _ hq1z, upd_same, ?_, fun q2 G2 t2 hq2 => ?_⟩
    · have := cl xs none (some (kk : Int))
      show _ + 1 ≤ _
      omega
    refine ⟨_, rfl, _, rfl, (kk : Int), 1, rfl, rfl, _, rfl, tp, _, rfl, (z1.trans t2) _ _ (pq sbz htp), fun q3 G3 t3 hq3 => ?_⟩
    refine ⟨q2, q3, _, _, rfl, rfl, t3 _ _ hq2, hq3, ?_, fun q4 G4 t4 hq4 => ?_⟩
    · have := cl xs none (some (kk : Int))
      have := cl xs (some ((kk : Int) + 1)) none
      rw [List.length_append]
      show _ + 1 + _ ≤ _
      omega
    rw [k1', cut_take, cut_drop, exs] at hq4
    refine ⟨by show 2 ≤ sizeLine; decide, fun r hr' => ?_⟩
    have zr := same_upd (o := .tup [.ref q4, .str "offset"]) hr'
    have sZ := z1.trans (t2.trans (t3.trans (t4.trans zr)))
    have hq4' := zr _ _ hq4
    have hrr := upd_same (H := G4) (a := r) (o := .tup [V.ref q4, .str "offset"])
    have hQz : Prs3 _ p1 p2 p3 a u b v d w := (hP.of (pq sbz)).same sZ
    have row : RowOk K CT CS CO _ r := ⟨_, _, _, hrr, (bad_at (k := (true, false)) (pr_good hQz.1 T.p1) (pr_good hQz.2.1 T.p2) (pr_good hQz.2.2 T.p3) (PrV.same (.inl ⟨zz, .int A0, .int (A0 + 2), rfl, hzt, Siz.int hAU.t0 hAU.t1, fun _ => ⟨A0, rfl, .inl ⟨_, rfl, (off_no (by have := hAU.t0; omega)).symm⟩⟩⟩) sZ) hk hq4').2 rfl, .inr (.inr ⟨rfl, rfl⟩)⟩
    refine app (e := 3) hM hMn hl (by omega) pen (pen'.same sZ) (kz.trans (Keep.of sZ)) (sZ _ _ hMz) (sbz.trans (Same.but sZ)) (by omega) (by omega)  hR row (fun H2 hh2 => ?_)
    obtain ⟨rs', g1, g2, g3, g4, g5⟩ := hh2
    exact ⟨M, rs', _, rfl, g1, by omega, by omega, g2, hMn, g3, g4, g5⟩
  obtain ⟨M, rs, m, rfl, pen, m0, m1, sb, hMn, hM, hl, hR⟩ := hh
  refine ⟨fun σ G => ∃ (M : Addr) (rs : List Addr) (m : Int), σ = [some (.ref p), some (.ref tp), some (.int (kk : Int)), some (.ref M), none] ∧ PenAt G p c ms m ∧ n ≤ m ∧ m ≤ n + 3 ∧ SameBut p H G ∧ H M = none ∧ G M = some (.lst (rs.map V.ref)) ∧ rs.length = 8 ∧ ∀ r ∈ rs, RowOk K CT CS CO G r, ?_, fun σ G hh => ?_⟩
  · refine ⟨_, rfl, .inl ⟨rfl, _, SqL.of hM⟩, ?_⟩
    refine ⟨_, rfl, _, rfl, (kk : Int), rfl, tp, _, rfl, pq sb htp, fun q1 G1 t1 hq1 => ?_⟩
    have e0 := t1 _ _ (pq sb htp)
    have er := t1 _ _ (pq sb hr0)
    refine ⟨_, rfl, _, rfl, tp, _, _, _, rfl, rfl, SqT.of e0, ix, r0, _, 0, _, rfl, rfl, SqT.of er, rfl, ?_⟩
    refine ⟨_, rfl, _, rfl, tp, _, _, _, rfl, rfl, SqT.of e0, ix, r0, _, 1, _, rfl, rfl, SqT.of er, rfl, _, _, rfl, rfl, ?_⟩
    refine ⟨by show 2 ≤ sizeLine; decide, fun zz hzz => ?_⟩
    have tz := same_upd (o := .tup [.int A0, .int (U0 + 1)]) hzz
    have hzt := upd_same (H := G1) (a := zz) (o := .tup [.int A0, .int (U0 + 1)])
    have pen' := (pen.same t1).same tz
    have sbz := (sb.trans (Same.but t1)).trans (Same.but tz)
    have kz : Keep K G _ := (Keep.of t1).trans (Keep.of tz)
    have hq1z := tz _ _ hq1
    have hMz := tz _ _ (t1 _ _ hM)
    refine ⟨by show 1 ≤ sizeLine; decide, fun u' hu' => ?_⟩
    have z1 := same_upd (o := .tup [.ref zz]) hu'
    refine ⟨q1, u', _, _, rfl, rfl, z1 _ _ hq1z, upd_same, ?_, fun q2 G2 t2 hq2 => ?_⟩
    · have := cl xs none (some (kk : Int))
      show _ + 1 ≤ _
      omega
    refine ⟨_, rfl, _, rfl, (kk : Int), 1, rfl, rfl, _, rfl, tp, _, rfl, (z1.trans t2) _ _ (pq sbz htp), fun q3 G3 t3 hq3 => ?_⟩
    refine ⟨q2, q3, _, _, rfl, rfl, t3 _ _ hq2, hq3, ?_, fun q4 G4 t4 hq4 => ?_⟩
    · have := cl xs none (some (kk : Int))
      have := cl xs (some ((kk : Int) + 1)) none
      rw [List.length_append]
      show _ + 1 + _ ≤ _
      omega
    rw [k1', cut_take, cut_drop, exs] at hq4
    refine ⟨by show 2 ≤ sizeLine; decide, fun r hr' => ?_⟩
    have zr := same_upd (o := .tup [.ref q4, .str "offset"]) hr'
    have sZ := z1.trans (t2.trans (t3.trans (t4.trans zr)))
    have hq4' := zr _ _ hq4
    have hrr := upd_same (H := G4) (a := r) (o := .tup [V.ref q4, .str "offset"])
    have hQz : Prs3 _ p1 p2 p3 a u b v d w := (hP.of (pq sbz)).same sZ
    have row : RowOk K CT CS CO _ r := ⟨_, _, _, hrr, (bad_at (k := (true, false)) (pr_good hQz.1 T.p1) (pr_good hQz.2.1 T.p2) (pr_good hQz.2.2 T.p3) (PrV.same (.inl ⟨zz, .int A0, .int (U0 + 1), rfl, hzt, Siz.int hAU.t0 hAU.t1, fun _ => ⟨A0, rfl, .inl ⟨_, rfl, (off_no (by have := hAU.ev; omega)).symm⟩⟩⟩) sZ) hk hq4').2 rfl, .inr (.inr ⟨rfl, rfl⟩)⟩
    refine app (e := 3) hM hMn hl (by omega) pen (pen'.same sZ) (kz.trans (Keep.of sZ)) (sZ _ _ hMz) (sbz.trans (Same.but sZ)) (by omega) (by omega)  hR row (fun H2 hh2 => ?_)
    obtain ⟨rs', g1, g2, g3, g4, g5⟩ := hh2
    exact ⟨M, rs', _, rfl, g1, by omega, by omega, g2, hMn, g3, g4, g5⟩
  obtain ⟨M, rs, m, rfl, pen, m0, m1, sb, hMn, hM, hl, hR⟩ := hh
  -- far
  refine ⟨fun σ G => ∃ (M : Addr) (rs : List Addr) (m F0 : Int), σ = [some (.ref p), some (.ref tp), some (.int (kk : Int)), some (.ref M), some (.int F0)] ∧ (U0 = A0 → F0 = U0 - 2) ∧ (U0 ≠ A0 → F0 = U0 + 2) ∧ PenAt G p c ms m ∧ n ≤ m ∧ m ≤ n + 3 ∧ SameBut p H G ∧ H M = none ∧ G M = some (.lst (rs.map V.ref)) ∧ rs.length = 8 ∧ ∀ r ∈ rs, RowOk K CT CS CO G r, ?_, fun σ G hh => ?_⟩
  · have e0 := pq sb htp
    have er := pq sb hr0
    refine ⟨_, rfl, _, rfl, tp, _, _, _, rfl, rfl, SqT.of e0, ix, r0, _, 1, _, rfl, rfl, SqT.of er, rfl, ?_⟩
    refine ⟨2, rfl, by show 2 ≤ sizeLine; decide, fun X hX => ?_⟩
    have sX := same_upd (o := .lst [.int 2, .int (-2)]) hX
    have e0' := sX _ _ e0
    have er' := sX _ _ er
    refine ⟨_, rfl, _, rfl, tp, _, _, _, rfl, rfl, SqT.of e0', ix, r0, _, 1, _, rfl, rfl, SqT.of er', rfl, ?_⟩
    refine ⟨_, rfl, _, rfl, tp, _, _, _, rfl, rfl, SqT.of e0', ix, r0, _, 0, _, rfl, rfl, SqT.of er', rfl, rfl, .inr ⟨_, rfl, ?_⟩⟩
    by_cases z : U0 = A0
    · refine ⟨X, _, 1, _, rfl, ?_, SqL.of upd_same, atI_nat (j := 1) rfl, _, _, rfl, rfl, M, rs, m, U0 + -2, rfl, (fun _ => by omega), (fun h => absurd z h), pen.same sX, m0, m1, sb.trans (Same.but sX), hMn, sX _ _ hM, hl, fun r hr' => (hR r hr').keep (Keep.of sX)⟩
      rw [decide_eq_true (congrArg V.int z)]
      rfl
    · refine ⟨X, _, 0, _, rfl, ?_, SqL.of upd_same, atI_nat (j := 0) rfl, _, _, rfl, rfl, M, rs, m, U0 + 2, rfl, (fun h => absurd h z), (fun _ => rfl), pen.same sX, m0, m1, sb.trans (Same.but sX), hMn, sX _ _ hM, hl, fun r hr' => (hR r hr').keep (Keep.of sX)⟩
      rw [decide_eq_false (fun e => z (V.int.inj e))]
      rfl
  obtain ⟨M, rs, m, F0, rfl, f1, f2, pen, m0, m1, sb, hMn, hM, hl, hR⟩ := hh
  refine ⟨fun σ G => ∃ (M : Addr) (rs : List Addr) (m : Int), σ = [some (.ref p), some (.ref tp), some (.int (kk : Int)), some (.ref M), some (.int F0)] ∧ PenAt G p c ms m ∧ n ≤ m ∧ m ≤ n + 3 ∧ SameBut p H G ∧ H M = none ∧ G M = some (.lst (rs.map V.ref)) ∧ 8 ≤ rs.length ∧ rs.length ≤ 9 ∧ ∀ r ∈ rs, RowOk K CT CS CO G r, ?_, fun σ G hh => ?_⟩
  · have e0 := pq sb htp
    have er := pq sb hr0
    refine ⟨_, rfl, _, rfl, tp, _, _, _, rfl, rfl, SqT.of e0, ix, r0, _, 0, _, rfl, rfl, SqT.of er, rfl, _, _, rfl, rfl, _, rfl, ?_⟩
    by_cases zA : (0 : Int) < A0
    · refine iteD1 zA ?_
      refine ⟨_, rfl, .inl ⟨rfl, _, SqL.of hM⟩, ?_⟩
      refine ⟨_, rfl, _, rfl, (kk : Int), rfl, tp, _, rfl, pq sb htp, fun q1 G1 t1 hq1 => ?_⟩
      have e0 := t1 _ _ (pq sb htp)
      have er := t1 _ _ (pq sb hr0)
      refine ⟨_, rfl, _, rfl, tp, _, _, _, rfl, rfl, SqT.of e0, ix, r0, _, 0, _, rfl, rfl, SqT.of er, rfl, ?_⟩
      refine ⟨_, rfl, by show 2 ≤ sizeLine; decide, fun zz hzz => ?_⟩
      have tz := same_upd (o := .tup [.int A0, .int F0]) hzz
      have hzt := upd_same (H := G1) (a := zz) (o := .tup [.int A0, .int F0])
      have pen' := (pen.same t1).same tz
      have sbz := (sb.trans (Same.but t1)).trans (Same.but tz)
      have kz : Keep K G _ := (Keep.of t1).trans (Keep.of tz)
      have hq1z := tz _ _ hq1
      have hMz := tz _ _ (t1 _ _ hM)
      refine ⟨by show 1 ≤ sizeLine; decide, fun u' hu' => ?_⟩
      have z1 := same_upd (o := .tup [.ref zz]) hu'
      refine ⟨q1, u', _, _, rfl, rfl, z1 _ _ hq1z, upd_same, ?_, fun q2 G2 t2 hq2 => ?_⟩
      · have := cl xs none (some (kk : Int))
        show _ + 1 ≤ _
        omega
      refine ⟨_, rfl, _, rfl, (kk : Int), 1, rfl, rfl, _, rfl, tp, _, rfl, (z1.trans t2) _ _ (pq sbz htp), fun q3 G3 t3 hq3 => ?_⟩
      refine ⟨q2, q3, _, _, rfl, rfl, t3 _ _ hq2, hq3, ?_, fun q4 G4 t4 hq4 => ?_⟩
      · have := cl xs none (some (kk : Int))
        have := cl xs (some ((kk : Int) + 1)) none
        rw [List.length_append]
        show _ + 1 + _ ≤ _
        omega
      rw [k1', cut_take, cut_drop, exs] at hq4
      refine ⟨by show 2 ≤ sizeLine; decide, fun r hr' => ?_⟩
      have zr := same_upd (o := .tup [.ref q4, .str "triple"]) hr'
      have sZ := z1.trans (t2.trans (t3.trans (t4.trans zr)))
      have hq4' := zr _ _ hq4
      have hrr := upd_same (H := G4) (a := r) (o := .tup [V.ref q4, .str "triple"])
      have hQz : Prs3 _ p1 p2 p3 a u b v d w := (hP.of (pq sbz)).same sZ
      have PF : PairP A0 F0 := by
        obtain ⟨a0', a1', a2', a3', a4'⟩ := hAU
        by_cases z : U0 = A0
        · have := f1 z
          exact ⟨a0', a1', by omega, by omega, by omega⟩
        · have := f2 z
          exact ⟨a0', a1', by omega, by omega, by omega⟩
      have nF : F0 ≠ U0 := by
        by_cases z : U0 = A0
        · have := f1 z
          omega
        · have := f2 z
          omega
      have bad : BadT K CT CS CO (upd G4 r (.tup [V.ref q4, .str "triple"])) (.ref q4) CT := by
        obtain ⟨r0', A', U', hix', hr0', _, far'⟩ := pair_at hQz T hk
        have er0 : r0' = r0 := by
          have := hix'.symm.trans hix
          injection this with this
          injection this
        have eAU := (er0 ▸ hr0').symm.trans (pq ((sbz.trans (Same.but sZ))) hr0)
        have eA : A' = A0 ∧ U' = U0 := by
          unfold pairO at eAU
          injection eAU with eAU
          injection eAU with eAU
          injection eAU with h1 h2
          injection h2 with h2 _
          exact ⟨V.int.inj h1, V.int.inj h2⟩
        obtain ⟨rfl, rfl⟩ := eA
        exact far' _ q4 zz F0 (fun _ _ e => e) hq4' (sZ _ _ hzt) PF nF K CT CS CO
      have row : RowOk K CT CS CO _ r := ⟨_, _, _, hrr, bad, .inl ⟨rfl, rfl⟩⟩
      refine app (e := 3) hM hMn hl (by omega) pen (pen'.same sZ) (kz.trans (Keep.of sZ)) (sZ _ _ hMz) (sbz.trans (Same.but sZ)) (by omega) (by omega)  hR row (fun H2 hh2 => ?_)
      obtain ⟨rs', g1, g2, g3, g4, g5⟩ := hh2
      exact ⟨M, rs', _, rfl, g1, by omega, by omega, g2, hMn, g3, by omega, by omega, g5⟩
    · exact iteD0 zA ⟨M, rs, m, rfl, pen, m0, m1, sb, hMn, hM, by omega, by omega, hR⟩
  obtain ⟨M, rs, m, rfl, pen, m0, m1, sb, hMn, hM, l8, l9, hR⟩ := hh
  refine ⟨_, rfl, _, rfl, _, rfl, M, _, rfl, .inl (SqL.of hM), p, c, ms, m, _, rfl, pen, by omega, by omega, ?_, ?_, fun e n' H' e0 e1 x0 x1 pen' s' => ?_⟩
  · rw [List.length_map]; omega
  · rw [List.length_map]; omega
  rw [List.length_map] at e1
  have hM' := s' _ _ (PenAt.ne pen0 hMn) hM
  have kq : Keep K G H' := Keep.pen (K := K) pen pen' s'
  obtain ⟨r, hr'⟩ : ∃ r, rs[e.toNat]? = some r := ⟨_, List.getElem?_eq_getElem (by omega)⟩
  refine ⟨M, _, e, .ref r, rfl, rfl, SqL.of hM', ?_, q r n' H' ((hR r (List.mem_of_getElem? hr')).keep kq) (by omega) (by omega) pen' (sb.trans s')⟩
  have ee : e = ((e.toNat : Nat) : Int) := (Int.toNat_of_nonneg e0).symm
  rw [ee]
  refine atI_nat ?_
  rw [List.getElem?_map, hr']
  rfl
end
end TB
namespace TC
set_option exponentiation.threshold 20000
open PySem PySem.Spec PyProof.Rows L2 TCA TCX
/-! ### K18M4: _law_step -/
def okL : List Stp := [.r 0 1, .r 0 2, .r 1 2, .c 0 1, .c 0 2, .c 1 2, .t]
theorem okS_mem {s : Stp} (h : okS s) : s ∈ okL := by
  cases s with
  | r i j =>
    have h : (i, j) ∈ ([(0, 1), (0, 2), (1, 2)] : List (Nat × Nat)) := h
    simp only [List.mem_cons, List.not_mem_nil, or_false, Prod.mk.injEq] at h
    rcases h with ⟨rfl, rfl⟩ | ⟨rfl, rfl⟩ | ⟨rfl, rfl⟩ <;> simp [okL]
  | c i j =>
    have h : (i, j) ∈ ([(0, 1), (0, 2), (1, 2)] : List (Nat × Nat)) := h
    simp only [List.mem_cons, List.not_mem_nil, or_false, Prod.mk.injEq] at h
    rcases h with ⟨rfl, rfl⟩ | ⟨rfl, rfl⟩ | ⟨rfl, rfl⟩ <;> simp [okL]
  | t => simp [okL]
theorem stp_shows : ∀ s ∈ okL, (stpD s).showable = true ∧ (stpD s).hasDict = false ∧ (stpD s).depth ≤ 60 ∧ (stpD s).shown.length ≤ 40 ∧ decide ((stpD s).shown = ("('turned',)" : Str)) = !isEx s := by decide +kernel
def ijD (i j : Nat) : PyData := .tuple [.int (i : Int), .int (j : Int)]
theorem ij_shows : ∀ p ∈ ([(0, 1), (0, 2), (1, 2)] : List (Nat × Nat)), (ijD p.1 p.2).showable = true ∧ (ijD p.1 p.2).hasDict = false ∧ (ijD p.1 p.2).depth ≤ 60 ∧ (ijD p.1 p.2).shown.length ≤ 40 ∧ inV (.str (ijD p.1 p.2).shown) ([.str "(0, 1)", .str "(0, 2)", .str "(1, 2)"] : List V) = true := by decide +kernel
section
variable {P : Program} {w : World} {K : PySem.W.Frag} {mg : Str → Option Value} {base : Heap} {f : Addr} {fd : FuncData}
def spStepL : Sp := fun vs H Q _ => ∃ (a u : Addr) (S : Nat → Nat → Int) (s : Stp), vs = [.ref a, .ref u] ∧ SqA H a S ∧ StpAt H u s ∧ okS s ∧ ∀ b H', Same H H' → SqA H' b (exch s S) → Q (.ref b) H'
abbrev nStepL : List Str := ["_law_square_here", "_law_step_here", "_law_order", "_law_k", "_law_line"]
theorem scStepL : FnScope nStepL ["_law_square_here", "_law_step_here"] (defScope sStepL) := ⟨rfl, rfl, rfl, by decide +kernel, rfl, by decide +kernel, by decide +kernel⟩
abbrev scStepX : Scope := { kind := .function, names := [(".0", .local), ("_law_line", .cell), ("tuple", .globalImplicit), ("_law_order", .cell)], isGenerator := false, isCoroutine := false }
set_option maxHeartbeats 0 in
theorem ok_stepL {fF : Addr} {fdF : FuncData} (F : FnP K "_law_step" sStepL f fd)
    (GFl : FnOk P w K mg base CX0 1 fF fdF ["_law_square_here"] spFlipL) (bFl : L2.Binds K fdF ["_law_square_here"] []) (kFl : PySem.W.keepIn K (.ref fF) = true) (gFl : mg "_law_flip" = some (.ref fF))
    (gisinstance : mg "isinstance" = none) (gtuple : mg "tuple" = none) (glen : mg "len" = none) (grepr : mg "repr" = none) : FnG P w K mg base CX0 2 f fd ["_law_square_here", "_law_step_here"] spStepL := by
  refine okG F scStepL (fun vs H Q E h => ?_) (fun cdv A outer s H vs Q E hG hr h => ?_)
  · obtain ⟨_, _, _, _, rfl, _⟩ := h
    rfl
  obtain ⟨a, u, S, st, rfl, hS, hu0, ok, q⟩ := h
  have hu := hr.units
  refine ⟨_, PSs.nox (C8.pss_cut (ps_if (PW.pt (pw_or (pt_not (pt_val (pe_callB call_isi (by rfl) gisinstance (by decide +kernel) (pa_cons (pv 1) (pa_cons (pe_bltn (v := .ty "tuple") (by rfl) gtuple (by decide +kernel) rfl) pa_nil))))) (pw_or1 (pt_cmpR op_eq (pe_callB call_len_seq (by rfl) glen PySem.boot_len (pa_cons (pv 1) pa_nil)) pe_int (nomark _))))) (pss_one (ps_ret pe_non)) pss_nil)
      (C8.pss_cut (ps_if (pt_cmpR op_eq (pe_callB (call_reprD hG hu) (by rfl) grepr (by decide +kernel) (pa_cons (pv 1) pa_nil)) pe_str (nomark _)) (pss_one (ps_ret (pe_call GFl hr (by rfl) gFl kFl bFl .nil pass0 (pa_cons (pv 0) pa_nil)))) pss_nil)
      (C8.pss_cut (ps_if (PW.pt (pw_or (pt_cmpR op_ne (pe_callB call_len_seq (by rfl) glen PySem.boot_len (pa_cons (pv 1) pa_nil)) pe_int (nomark _)) (pw_or (pt_cmpR op_notIn_seq (pe_callB (call_reprD hG hu) (by rfl) grepr (by decide +kernel) (pa_cons (pe_slice sl_tupS (pv 1) (po_some pe_int) po_none) pa_nil)) (pe_tup (pa_cons pe_str (pa_cons pe_str (pa_cons pe_str pa_nil)))) (by rfl)) (pw_or1 (pt_cmpR op_notIn_seq (pe_ix ix_tup (pv 1) pe_int (fun _ _ => rfl)) (pe_tup (pa_cons pe_str (pa_cons pe_str pa_nil))) (by rfl)))))) (pss_one (ps_ret pe_non)) pss_nil)
      (C8.pss_cut (ps_set (i := 2) scStepL.nd rfl (.inr rfl) (pe_lst (pa_cons pe_int (pa_cons pe_int (pa_cons pe_int pa_nil)))))
      (C8.pss_cut (ps_asg (pe_tup (pa_cons (pe_ix ix_tup (pv 1) pe_int (fun _ _ => rfl)) (pa_cons (pe_ix ix_tup (pv 1) pe_int (fun _ _ => rfl)) pa_nil))) (pg_tup rfl (pgs_cons (pg_sub (pv 2) (pe_ix ix_tup (pv 1) pe_int (fun _ _ => rfl)) set_list) (pgs_cons (pg_sub (pv 2) (pe_ix ix_tup (pv 1) pe_int (fun _ _ => rfl)) set_list) pgs_nil))))
      (pss_cons (ps_if (pt_cmpR op_eq (pe_ix ix_tup (pv 1) pe_int (fun _ _ => rfl)) pe_str (nomark _)) (pss_one (ps_ret (pe_callTy call_tuple_of (by rfl) gtuple (by decide +kernel) (pa_cons (pe_lc (own := [("_law_k", 3)]) (g := gName 3) (tt := tYes) (te := (tOp (rIxT K) (tVar 0) (tVar 3))) (by rfl) scStepL.nd (pi_list (pv 2))
          (blkOk_by (N := nStepL) (sc := defScope sStepL) (by decide +kernel)) (fun _ _ _ _ _ => pg_name (i := 3) scStepL.nd rfl (.inl rfl)) (fun _ _ _ _ _ => pts_nil) (fun _ _ _ _ _ => (pe_ix ix_tup (pv 0) (pv 3) (fun _ _ => rfl)))) pa_nil)))) pss_nil)
      (pss_one (ps_ret (pe_callTy call_tuple_of (by rfl) gtuple (by decide +kernel) (pa_cons (pe_lc (own := [("_law_line", 4)]) (g := gName 4) (tt := tYes) (te := tCB (rTupOf K) (tCons (tLc (iList K (tVar 2)) (gName 3) tYes (tOp (rIxT K) (tVar 4) (tVar 3)) [3]) tNil)) (by rfl) scStepL.nd (pi_tup (pv 0))
          (blkOk_by (N := nStepL) (sc := defScope sStepL) (by decide +kernel)) (fun _ _ _ _ _ => pg_name (i := 4) scStepL.nd rfl (.inr rfl)) (fun _ _ _ _ _ => pts_nil) (fun _ _ _ _ _ => (pe_callTy call_tuple_of (by rfl) gtuple (by decide +kernel) (pa_cons (pe_lc (own := [("_law_k", 3)]) (g := gName 3) (tt := tYes) (te := (tOp (rIxT K) (tVar 4) (tVar 3))) (by rfl) scStepL.nd (pi_list (pv 2))
          (blkOk_by (N := nStepL) (sc := scStepX) (by decide +kernel)) (fun _ _ _ _ _ => pg_name (i := 3) scStepL.nd rfl (.inl rfl)) (fun _ _ _ _ _ => pts_nil) (fun _ _ _ _ _ => (pe_ix ix_tup (pv 4) (pv 3) (fun _ _ => rfl)))) pa_nil)))) pa_nil)))))))))), ?_⟩
  obtain ⟨sh1, sh2, sh3, sh4, sh5⟩ := stp_shows st (okS_mem ok)
  have refl : ∀ {H : Hp}, Same H H := fun _ _ e => e
  obtain ⟨tv, htv, lt⟩ : ∃ tv : List V, H u = some (.tup tv) ∧ tv.length ≠ 0 := by
    cases st with
    | r i j => exact ⟨_, hu0, by simp⟩
    | c i j => exact ⟨_, hu0, by simp⟩
    | t => exact ⟨_, hu0, by simp⟩
  refine ⟨fun σ G => σ = [some (.ref a), some (.ref u), none, none, none] ∧ G = H, ?_, fun σ G hh => ?_⟩
  · refine ⟨_, rfl, _, _, _, _, true, rfl, .ty "tuple", .base (.tup htv), kit_ty (by decide +kernel), true, rfl, iteF ?_⟩
    exact ⟨_, rfl, u, _, rfl, .inr (SqT.of htv), rfl, _, rfl, iteD0 (fun w => lt (by have := V.int.inj w; omega)) ⟨rfl, rfl⟩⟩
  obtain ⟨rfl, rfl⟩ := hh
  refine ⟨fun σ G' => σ = [some (.ref a), some (.ref u), none, none, none] ∧ G' = G ∧ isEx st = true, ?_, fun σ G' hh => ?_⟩
  · refine ⟨_, rfl, u, stpD st, rfl, hu0.dp, sh1, sh2, sh3, Nat.le_trans sh4 (by decide), rfl, _, rfl, ?_⟩
    cases st with
    | r i j => exact iteD0 (fun e => by
        have e' := V.str.inj e
        rw [e', decide_eq_true rfl] at sh5
        cases sh5) ⟨rfl, rfl, rfl⟩
    | c i j => exact iteD0 (fun e => by
        have e' := V.str.inj e
        rw [e', decide_eq_true rfl] at sh5
        cases sh5) ⟨rfl, rfl, rfl⟩
    | t => exact iteD1 (congrArg V.str (of_decide_eq_true sh5)) ⟨_, rfl, a, S, rfl, hS, q⟩
  obtain ⟨rfl, rfl, ex⟩ := hh
  obtain ⟨wd, i, j, hij, hst, hw⟩ : ∃ (wd : Str) (i j : Nat), (i, j) ∈ ([(0, 1), (0, 2), (1, 2)] : List (Nat × Nat)) ∧ G' u = some (.tup [.str wd, .int (i : Int), .int (j : Int)]) ∧ ((wd = "rows" ∧ st = .r i j) ∨ (wd = "columns" ∧ st = .c i j)) := by
    cases st with
    | r i j => exact ⟨_, i, j, ok, hu0, .inl ⟨rfl, rfl⟩⟩
    | c i j => exact ⟨_, i, j, ok, hu0, .inr ⟨rfl, rfl⟩⟩
    | t => cases ex
  obtain ⟨k1, k2, k3, k4, k5⟩ := ij_shows (i, j) hij
  refine ⟨fun σ H1 => σ = [some (.ref a), some (.ref u), none, none, none] ∧ Same G' H1, ?_, fun σ H1 hh => ?_⟩
  · refine ⟨_, rfl, u, _, rfl, .inr (SqT.of hst), rfl, _, rfl, iteNS rfl ?_⟩
    refine ⟨_, rfl, 1, rfl, u, _, rfl, hst, fun p1 G1 t1 hp1 => ?_⟩
    have hp1 : G1 p1 = some (.tup [.int (i : Int), .int (j : Int)]) := hp1
    refine ⟨p1, ijD i j, rfl, .tup (SqT.of hp1) (.cons (.int _) (.cons (.int _) .nil)), k1, k2, k3, Nat.le_trans k4 (by decide), ?_⟩
    refine ⟨by show 3 ≤ sizeLine; decide, fun p2 hp2 => ?_⟩
    have t2 := same_upd (o := .tup [.str "(0, 1)", .str "(0, 2)", .str "(1, 2)"]) hp2
    refine ⟨p2, _, rfl, .inr (SqT.of upd_same), rfl, rfl, false, ?_, iteF ?_⟩
    · show V.bl (!inV (.str (ijD i j).shown) ([.str "(0, 1)", .str "(0, 2)", .str "(1, 2)"] : List V)) = V.bl false
      rw [k5]
      rfl
    have t12 := t1.trans t2
    refine ⟨_, rfl, u, _, 0, _, rfl, rfl, SqT.of (t12 _ _ hst), rfl, by show 2 ≤ sizeLine; decide, fun p3 hp3 => ?_⟩
    have t3 := same_upd (o := .tup [.str "rows", .str "columns"]) hp3
    refine ⟨p3, _, rfl, .inr (SqT.of upd_same), rfl, rfl, false, ?_, iteF ⟨rfl, t12.trans t3⟩⟩
    rcases hw with ⟨rfl, _⟩ | ⟨rfl, _⟩ <;> decide +kernel
  obtain ⟨rfl, s1⟩ := hh
  have hS := hS.same s1
  have hst := s1 _ _ hst
  have q : ∀ b H', Same H1 H' → SqA H' b (exch st S) → Q (.ref b) H' := fun b H' s' h => q b H' (s1.trans s') h
  clear s1 hu0 htv
  refine ⟨fun σ H2 => ∃ lo : Addr, σ = [some (.ref a), some (.ref u), some (.ref lo), none, none] ∧ H1 lo = none ∧ H2 = upd H1 lo (.lst [.int 0, .int 1, .int 2]), ⟨by show 3 ≤ sizeLine; decide, fun lo hlo => ⟨lo, rfl, hlo, rfl⟩⟩, fun σ H2 hh => ?_⟩
  obtain ⟨lo, rfl, hlo, rfl⟩ := hh
  refine ⟨fun σ H3 => σ = [some (.ref a), some (.ref u), some (.ref lo), none, none] ∧ Same H1 H3 ∧ H3 lo = some (.lst (ord3 i j)), ?_, fun σ H3 hh => ?_⟩
  · have ul : u ≠ lo := fun e => by rw [e, hlo] at hst; cases hst
    have c0 : (upd H1 lo (.lst [.int 0, .int 1, .int 2])) u = some (.tup [.str wd, .int (i : Int), .int (j : Int)]) := by rw [upd_ne ul]; exact hst
    refine ⟨_, rfl, u, _, 2, _, rfl, rfl, SqT.of c0, rfl, _, rfl, u, _, 1, _, rfl, rfl, SqT.of c0, rfl, by show 2 ≤ sizeLine; decide, fun t ht => ?_⟩
    have tl : t ≠ lo := fun e => by rw [e, upd_same] at ht; cases ht
    have ut : u ≠ t := fun e => by rw [e, ht] at c0; cases c0
    have hl : (upd (upd H1 lo (.lst [.int 0, .int 1, .int 2])) t (.tup [.int (j : Int), .int (i : Int)])) lo = some (.lst [.int 0, .int 1, .int 2]) := by
      rw [upd_ne tl.symm]
      exact upd_same
    have c1 : (upd (upd H1 lo (.lst [.int 0, .int 1, .int 2])) t (.tup [.int (j : Int), .int (i : Int)])) u = some (.tup [.str wd, .int (i : Int), .int (j : Int)]) := by rw [upd_ne ut]; exact c0
    have c2 : ∀ {xs : List V}, (upd (upd (upd H1 lo (.lst [.int 0, .int 1, .int 2])) t (.tup [.int (j : Int), .int (i : Int)])) lo (.lst xs)) u = some (.tup [.str wd, .int (i : Int), .int (j : Int)]) := fun {xs} => by rw [upd_ne ul]; exact c1
    have sm : ∀ {xs ys : List V}, Same H1 (upd (upd (upd (upd H1 lo (.lst [.int 0, .int 1, .int 2])) t (.tup [.int (j : Int), .int (i : Int)])) lo (.lst xs)) lo (.lst ys)) := fun {xs ys} b o e => by
      have n1 : b ≠ lo := fun z => by rw [z, hlo] at e; cases e
      rw [upd_ne n1, upd_ne n1]
      exact same_upd ht _ _ (same_upd hlo _ _ e)
    simp only [List.mem_cons, List.not_mem_nil, or_false, Prod.mk.injEq] at hij
    rcases hij with ⟨rfl, rfl⟩ | ⟨rfl, rfl⟩ | ⟨rfl, rfl⟩
    · exact ⟨t, _, rfl, SqT.of upd_same, rfl, _, _, rfl, _, rfl, _, rfl, u, _, 1, _, rfl, rfl, SqT.of c1, rfl, lo, _, _, 0, rfl, rfl, hl, rfl, _, _, rfl, _, rfl, _, rfl, u, _, 2, _, rfl, rfl, SqT.of c2, rfl, lo, _, _, 1, rfl, rfl, upd_same, rfl, rfl, rfl, sm, upd_same⟩
    · exact ⟨t, _, rfl, SqT.of upd_same, rfl, _, _, rfl, _, rfl, _, rfl, u, _, 1, _, rfl, rfl, SqT.of c1, rfl, lo, _, _, 0, rfl, rfl, hl, rfl, _, _, rfl, _, rfl, _, rfl, u, _, 2, _, rfl, rfl, SqT.of c2, rfl, lo, _, _, 2, rfl, rfl, upd_same, rfl, rfl, rfl, sm, upd_same⟩
    · exact ⟨t, _, rfl, SqT.of upd_same, rfl, _, _, rfl, _, rfl, _, rfl, u, _, 1, _, rfl, rfl, SqT.of c1, rfl, lo, _, _, 1, rfl, rfl, hl, rfl, _, _, rfl, _, rfl, _, rfl, u, _, 2, _, rfl, rfl, SqT.of c2, rfl, lo, _, _, 2, rfl, rfl, upd_same, rfl, rfl, rfl, sm, upd_same⟩
  obtain ⟨rfl, s3, hlo3⟩ := hh
  have hst3 := s3 _ _ hst
  obtain ⟨r, hr0, hrow⟩ := (hS.same s3).get
  rcases hw with ⟨rfl, rfl⟩ | ⟨rfl, rfl⟩
  · refine ⟨_, rfl, u, _, 0, _, rfl, rfl, SqT.of hst3, rfl, rfl, true, by decide +kernel, iteT ?_⟩
    refine ⟨_, rfl, lo, rfl, ⟨_, SqL.of hlo3⟩, fun D hD => lc_list (xs := ord3 i j) (fun m G => Same H3 G ∧ G D = some (.lst ([V.ref (r (swapI i j 0)), .ref (r (swapI i j 1)), .ref (r (swapI i j 2))].take m))) ⟨same_upd hD, upd_same⟩ (fun m G _ hP => SqL.of (hP.1 _ _ hlo3)) (fun m x G hx hP => ?_) (fun G hP => ?_)⟩
    · obtain ⟨sG, hG⟩ := hP
      obtain ⟨m3, rfl⟩ := ord3_at hx
      refine ⟨rfl, ?_⟩
      refine ⟨_, rfl, _, rfl, a, _, _, _, rfl, rfl, SqT.of (sG _ _ hr0), at3 (fun n => .ref (r n)) (sw_lt hij m3), _, hG, ?_, same_at sG hD, ?_⟩
      · exact Nat.lt_of_le_of_lt (List.length_take_le _ _) (by show m < sizeLine; rw [sizeLine_eq]; omega)
      · rw [upd_same, ← take3 (fun n => V.ref (r (swapI i j n))) m3]
    · obtain ⟨sG, hG⟩ := hP
      refine ⟨D, _, rfl, .inl ⟨SqL.of hG, fun l hl => ?_⟩⟩
      have sl := same_upd (o := .tup ([V.ref (r (swapI i j 0)), .ref (r (swapI i j 1)), .ref (r (swapI i j 2))].take (ord3 i j).length)) hl
      have rows : ∀ m, m < 3 → (upd G l (.tup ([V.ref (r (swapI i j 0)), .ref (r (swapI i j 1)), .ref (r (swapI i j 2))].take (ord3 i j).length))) (r (swapI i j m)) = some (.tup (rowV S (swapI i j m))) := fun m hm => sl _ _ (sG _ _ (hrow _ (sw_lt hij hm)))
      exact q l _ ((s3.trans sG).trans sl) ⟨_, _, _, upd_same, rows 0 (by decide), rows 1 (by decide), rows 2 (by decide)⟩
  · refine ⟨_, rfl, u, _, 0, _, rfl, rfl, SqT.of hst3, rfl, rfl, false, by decide +kernel, iteF ?_⟩
    refine ⟨_, rfl, a, rfl, ⟨_, SqT.of hr0⟩, fun D hD => lc_tup (xs := [.ref (r 0), .ref (r 1), .ref (r 2)]) (fun m G => Same H3 G ∧ ∃ cs : List Addr, G D = some (.lst (cs.map V.ref)) ∧ cs.length = m ∧ ∀ (k : Nat) c, cs[k]? = some c → G c = some (.tup (rowV (exch (.c i j) S) k))) ⟨same_upd hD, [], upd_same, rfl, fun k c h => by simp at h⟩ (fun m G _ hP => SqT.of (hP.1 _ _ hr0)) (fun m x G hx hP => ?_) (fun G hP => ?_)⟩
    · obtain ⟨sG, cs, hG, lcs, hcs⟩ := hP
      obtain ⟨m3, rfl⟩ : m < 3 ∧ x = .ref (r m) := match m, hx with
        | 0, h => ⟨by decide, (Option.some.inj h).symm⟩
        | 1, h => ⟨by decide, (Option.some.inj h).symm⟩
        | 2, h => ⟨by decide, (Option.some.inj h).symm⟩
        | m + 3, h => by cases h
      refine ⟨rfl, ?_⟩
      refine ⟨_, rfl, lo, rfl, ⟨_, SqL.of (sG _ _ hlo3)⟩, fun D2 hD2 => lc_list (xs := ord3 i j) (fun n G2 => Same G G2 ∧ G2 D2 = some (.lst ((rowV (exch (.c i j) S) m).take n))) ⟨same_upd hD2, upd_same⟩ (fun n G2 _ hP => SqL.of (hP.1 _ _ (sG _ _ hlo3))) (fun n x G2 hx hP => ?_) (fun G2 hP => ?_)⟩
      · obtain ⟨s2, h2⟩ := hP
        obtain ⟨n3, rfl⟩ := ord3_at hx
        refine ⟨rfl, ?_⟩
        refine ⟨_, rfl, _, rfl, r m, _, _, _, rfl, rfl, SqT.of (s2 _ _ (sG _ _ (hrow m m3))), at3 (fun n => .int (S m n)) (sw_lt hij n3), _, h2, ?_, same_at s2 hD2, ?_⟩
        · exact Nat.lt_of_le_of_lt (List.length_take_le _ _) (by show n < sizeLine; rw [sizeLine_eq]; omega)
        · rw [upd_same]
          exact congrArg (fun z => some (HO.lst z)) (take3 (fun n => V.int (S m (swapI i j n))) n3).symm
      · obtain ⟨s2, h2⟩ := hP
        refine ⟨D2, _, rfl, .inl ⟨SqL.of h2, fun l hl => ?_⟩⟩
        have sl := same_upd (o := .tup ((rowV (exch (.c i j) S) m).take (ord3 i j).length)) hl
        have hG3 := sl _ _ (s2 _ _ hG)
        refine ⟨_, hG3, ?_, same_at (sG.trans (s2.trans sl)) hD, cs ++ [l], ?_, ?_, fun k c hk => ?_⟩
        · rw [List.length_map, sizeLine_eq]
          omega
        · rw [upd_same, List.map_append]
          rfl
        · rw [List.length_append, lcs]
          rfl
        · by_cases z : k < cs.length
          · rw [List.getElem?_append_left z] at hk
            have e := sl _ _ (s2 _ _ (hcs k c hk))
            rw [upd_ne fun z => by rw [z, hG3] at e; cases e]
            exact e
          · have kl : k < (cs ++ [l]).length := (List.getElem?_eq_some_iff.mp hk).1
            rw [List.length_append] at kl
            have ek : k = cs.length := by
              have : ([l] : List Addr).length = 1 := rfl
              omega
            rw [ek, List.getElem?_append_right (Nat.le_refl _), Nat.sub_self] at hk
            cases hk
            rw [upd_ne (fun z => by rw [z, upd_same] at hG3; cases hG3), upd_same, ek, lcs]
            rfl
    · obtain ⟨sG, cs, hG, lcs, hcs⟩ := hP
      refine ⟨D, _, rfl, .inl ⟨SqL.of hG, fun l hl => ?_⟩⟩
      have sl := same_upd (o := .tup (cs.map V.ref)) hl
      match cs, lcs, hcs, hG, hl, sl with
      | [c0, c1, c2], _, hcs, hG, hl, sl => exact q l _ ((s3.trans sG).trans sl) ⟨c0, c1, c2, upd_same, sl _ _ (hcs 0 c0 rfl), sl _ _ (hcs 1 c1 rfl), sl _ _ (hcs 2 c2 rfl)⟩
end
end TC
namespace TC
set_option exponentiation.threshold 20000
open PySem PySem.Spec PyProof.Rows L2 TCA TCX
/-! ### K18M5: _law_steps_right -/
theorem mk_step (tot : Int) (k : Nat) (b : Bool) : mk17 tot k * (if tot % 2 * (if b = true then 1 else 0) = 1 then -1 else 1) = mk17 tot (k + (if b = true then 1 else 0)) := by
  unfold mk17
  cases b with
  | false =>
    rw [if_neg (by decide : ¬ (false = true)), if_neg (by decide : ¬ (false = true))]
    rw [if_neg (by omega : ¬ tot % 2 * 0 = 1)]
    simp
  | true =>
    rw [if_pos rfl, if_pos rfl]
    have e : tot * ((k + 1 : Nat) : Int) % 2 = (tot * (k : Int) % 2 + tot % 2) % 2 := by
      have : ((k + 1 : Nat) : Int) = (k : Int) + 1 := by omega
      rw [this, Int.mul_add, Int.mul_one, Int.add_emod]
    rw [e]
    have h1 : tot * (k : Int) % 2 = 0 ∨ tot * (k : Int) % 2 = 1 := by omega
    have h2 : tot % 2 = 0 ∨ tot % 2 = 1 := by omega
    rcases h1 with h1 | h1 <;> rcases h2 with h2 | h2 <;> rw [h1, h2] <;> decide
section
variable {P : Program} {w : World} {K : PySem.W.Frag} {mg : Str → Option Value} {base : Heap} {f : Addr} {fd : FuncData}
def spStepsR : Sp := fun vs H Q _ => ∃ (a b t L : Addr) (S1 S2 : Nat → Nat → Int) (ss : List Stp), vs = [.ref a, .ref b, .ref t] ∧ SqA H a S1 ∧ SqA H b S2 ∧ H t = some (.tup [.str "alike", .ref L, .int (mk17 (S1 0 0 + S1 0 1 + S1 0 2) (cntX ss))]) ∧ WayAt H L ss ∧ (∀ s ∈ ss, okS s) ∧ ss.length ≤ 5 ∧ nine (behind ss S1) = nine S2 ∧ ∀ H', Same H H' → Q (.bl true) H'
abbrev nStepsR : List Str := ["_law_square_here", "_law_goal", "_law_told", "_law_mark", "_law_total", "_law_step_here"]
theorem scStepsR : FnScope nStepsR ["_law_square_here", "_law_goal", "_law_told"] (defScope sStepsR) := ⟨rfl, rfl, rfl, by decide +kernel, rfl, by decide +kernel, by decide +kernel⟩
set_option maxHeartbeats 0 in
theorem ok_stepsR {fS : Addr} {fdS : FuncData} (F : FnP K "_law_steps_right" sStepsR f fd)
    (GStp : FnG P w K mg base CX0 2 fS fdS ["_law_square_here", "_law_step_here"] spStepL) (bStp : L2.Binds K fdS ["_law_square_here", "_law_step_here"] []) (kStp : PySem.W.keepIn K (.ref fS) = true) (gStp : mg "_law_step" = some (.ref fS))
    (gisinstance : mg "isinstance" = none) (glist : mg "list" = none) (glen : mg "len" = none) (grepr : mg "repr" = none) (gsum : mg "sum" = none) (gint : mg "int" = none) : FnG P w K mg base CX0 3 f fd ["_law_square_here", "_law_goal", "_law_told"] spStepsR := by
  refine okG F scStepsR (fun vs H Q E h => ?_) (fun cdv A outer s H vs Q E hG hr h => ?_)
  · obtain ⟨_, _, _, _, _, _, _, rfl, _⟩ := h
    rfl
  obtain ⟨a, b, t, L, S1, S2, ss, rfl, hS1, hS2, ht, hW, ok, l5, e9, q⟩ := h
  have hu := (hr.mono (show 1 ≤ 2 by decide)).units
  refine ⟨_, PSs.nox (C8.pss_cut (ps_if (PW.pt (pw_or (pt_cmpR op_ne (pe_callB call_len_seq (by rfl) glen PySem.boot_len (pa_cons (pv 2) pa_nil)) pe_int (nomark _)) (pw_or (pt_not (pt_val (pe_callB call_isi (by rfl) gisinstance (by decide +kernel) (pa_cons (pe_ix ix_tup (pv 2) pe_int (fun _ _ => rfl)) (pa_cons (pe_bltn (v := .ty "list") (by rfl) glist (by decide +kernel) rfl) pa_nil))))) (pw_or1 (pt_cmpR op_gt (pe_callB call_len_seq (by rfl) glen PySem.boot_len (pa_cons (pe_ix ix_tup (pv 2) pe_int (fun _ _ => rfl)) pa_nil)) pe_int (nomark _)))))) (pss_one (ps_ret pe_bl)) pss_nil)
      (C8.pss_cut (ps_par (i := 3) (j := 4) (by rfl) scStepsR.nd rfl rfl (by decide) rfl rfl (pa_cons pe_int (pa_cons (pe_callB (cr_sumT rfl) (by rfl) gsum (by decide +kernel) (pa_cons (pe_ix ix_tup (pv 0) pe_int (fun _ _ => rfl)) pa_nil)) pa_nil)) (by rfl))
      (pss_cons (ps_for PassesOwn.never rfl (pi_list (pe_ix ix_tup (pv 2) pe_int (fun _ _ => rfl))) (pg_name (i := 5) scStepsR.nd rfl (.inl rfl))
        (pss_cons (ps_set (i := 0) scStepsR.nd rfl (.inl rfl) (pe_callG GStp hG hr (by rfl) gStp kStp bStp .nil pass0 (pa_cons (pv 0) (pa_cons (pv 5) pa_nil))))
      (pss_cons (ps_if (pt_cmpR op_isN (pv 0) pe_non (nomark _)) (pss_one (ps_ret pe_bl)) pss_nil)
      (pss_one (ps_set (i := 3) scStepsR.nd rfl (.inl rfl) (pe_op op_mul (pv 3) (pe_ix ix_list (pe_lst (pa_cons pe_int (pa_cons (pe_un un_neg pe_int) pa_nil))) (pe_op op_mul (pe_op op_mod (pv 4) pe_int) (pe_callTy call_int1 (by rfl) gint (by decide +kernel) (pa_cons (pe_cmpR op_ne (pe_ix ix_tup (pv 5) pe_int (fun _ _ => rfl)) pe_str (nomark _)) pa_nil))) (fun _ _ => rfl))))))))
      (pss_one (ps_ret (pe_and (pe_cmpR (op_eqD hu) (pv 0) (pv 1) (nomark _)) (pe_one (pe_cmpR op_eq (pe_callB SkE.call_repr_int (by rfl) grepr (by decide +kernel) (pa_cons (pe_ix ix_tup (pv 2) pe_int (fun _ _ => rfl)) pa_nil)) (pe_callB SkE.call_repr_int (by rfl) grepr (by decide +kernel) (pa_cons (pv 3) pa_nil)) (nomark _))))))))), ?_⟩
  have refl : ∀ {H : Hp}, Same H H := fun _ _ e => e
  obtain ⟨us, hL, lus, hst⟩ := id hW
  refine ⟨fun σ G => σ = [some (.ref a), some (.ref b), some (.ref t), none, none, none] ∧ G = H, ?_, fun σ G hh => ?_⟩
  · refine ⟨_, rfl, t, _, rfl, .inr (SqT.of ht), rfl, _, rfl, iteNS rfl ?_⟩
    refine ⟨_, rfl, t, _, 1, _, rfl, rfl, SqT.of ht, rfl, _, _, _, _, true, rfl, .ty "list", .base (.lst hL), kit_ty (by decide +kernel), true, rfl, iteF ?_⟩
    refine ⟨_, rfl, t, _, 1, _, rfl, rfl, SqT.of ht, rfl, L, _, rfl, .inl (SqL.of hL), _, 5, rfl, rfl, _, rfl, iteD0 (fun z => ?_) ⟨rfl, rfl⟩⟩
    have z : (5 : Int) < (((us.map V.ref).length : Nat) : Int) := z
    rw [List.length_map, lus] at z
    omega
  obtain ⟨rfl, rfl⟩ := hh
  refine ⟨fun σ G' => σ = [some (.ref a), some (.ref b), some (.ref t), some (.int 1), some (.int (S1 0 0 + S1 0 1 + S1 0 2)), none] ∧ G' = G, ?_, fun σ G' hh => ?_⟩
  · obtain ⟨r0, r1, r2, e0, e1, e2, e3⟩ := hS1
    refine ⟨_, rfl, a, _, 0, _, rfl, rfl, SqT.of e0, rfl, r0, [S1 0 0, S1 0 1, S1 0 2], rfl, SqT.of e1, _, _, rfl, ?_⟩
    have e6 : ([S1 0 0, S1 0 1, S1 0 2] : List Int).sum = S1 0 0 + S1 0 1 + S1 0 2 := by simp; omega
    rw [e6]
    exact ⟨rfl, rfl⟩
  obtain ⟨rfl, rfl⟩ := hh
  obtain ⟨tot, etot⟩ : ∃ tot, S1 0 0 + S1 0 1 + S1 0 2 = tot := ⟨_, rfl⟩
  rw [etot] at ht ⊢
  refine ⟨_, rfl, t, _, 1, _, rfl, rfl, SqT.of ht, rfl, L, rfl, ⟨_, SqL.of hL⟩, for_list (xs := us.map V.ref) (fun i σ G => ∃ (a' : Addr) (v5 : Option V), σ = [some (.ref a'), some (.ref b), some (.ref t), some (.int (mk17 tot (cntX (ss.take i)))), some (.int tot), v5] ∧ Same G' G ∧ SqA G a' (behind (ss.take i) S1)) ⟨a, none, ?_, refl, hS1⟩ (fun i σ G _ hP => ?_) (fun i x σ G hx hP => ?_) (fun σ G hP => ?_)⟩
  · have : mk17 tot (cntX (ss.take 0)) = 1 := by
      show mk17 tot 0 = 1
      unfold mk17
      simp
    rw [this]
  · obtain ⟨_, _, _, sG, _⟩ := hP
    exact SqL.of (sG _ _ hL)
  · obtain ⟨a', v5, rfl, sG, hA⟩ := hP
    rw [List.getElem?_map] at hx
    obtain ⟨u, hu', rfl⟩ := Option.map_eq_some_iff.mp hx
    have il := (List.getElem?_eq_some_iff.mp hu').1
    obtain ⟨s, hs⟩ : ∃ s, ss[i]? = some s := ⟨_, List.getElem?_eq_getElem (by omega)⟩
    have hStp := (hst i u s hu' hs).same sG
    refine ⟨_, rfl, _, rfl, a', u, _, s, rfl, hA, hStp, ok s (List.mem_of_getElem? hs), fun b' G2 s2 hb => ?_⟩
    have tk : ss.take (i + 1) = ss.take i ++ [s] := by
      rw [List.take_add_one, hs]
      rfl
    obtain ⟨wd, xs, hu2, hb2⟩ : ∃ (wd : Str) (xs : List V), G2 u = some (.tup (.str wd :: xs)) ∧ (!decide (V.str wd = V.str "turned")) = isEx s := by
      have hStp2 := hStp.same s2
      cases s with
      | r i j => exact ⟨_, _, hStp2, (by decide +kernel : (!decide (V.str "rows" = V.str "turned")) = true)⟩
      | c i j => exact ⟨_, _, hStp2, (by decide +kernel : (!decide (V.str "columns" = V.str "turned")) = true)⟩
      | t => exact ⟨_, _, hStp2, by decide +kernel⟩
    refine ⟨_, rfl, rfl, _, rfl, iteD0 (fun z => by cases z) ?_⟩
    refine ⟨_, rfl, 1, rfl, by show 2 ≤ sizeLine; decide, fun X hX => ?_⟩
    have sX := same_upd (o := .lst [.int 1, .int (-1)]) hX
    refine ⟨_, rfl, tot, 2, rfl, rfl, (by decide : (0 : Int) < 2), _, rfl, u, _, 0, _, rfl, rfl, SqT.of (sX _ _ hu2), atI_nat (j := 0) rfl, rfl, .inr ⟨_, rfl, ?_⟩⟩
    rw [hb2]
    have m2 : tot % 2 = 0 ∨ tot % 2 = 1 := by omega
    refine ⟨_, _, rfl, rfl, .inl ⟨by omega, by omega⟩, ?_⟩
    have hat : atI [V.int 1, .int (-1)] (tot % 2 * (if isEx s = true then 1 else 0)) = some (.int (if tot % 2 * (if isEx s = true then 1 else 0) = 1 then -1 else 1)) := by
      cases isEx s <;> rcases m2 with m2 | m2 <;> rw [m2] <;> rfl
    refine ⟨X, _, _, _, rfl, rfl, SqL.of upd_same, hat, ?_⟩
    have mb : mk17 tot (cntX (ss.take i)) = 1 ∨ mk17 tot (cntX (ss.take i)) = -1 := mk_one _ _
    refine ⟨_, _, rfl, rfl, .inl ⟨by omega, by omega⟩, ?_⟩
    have cs : cntX (ss.take i) + (if isEx s = true then 1 else 0) = cntX (ss.take (i + 1)) := by
      rw [tk]
      unfold cntX
      rw [List.filter_append, List.length_append]
      cases e : isEx s <;> simp [e]
    refine ⟨b', some (.ref u), ?_, sG.trans (s2.trans sX), ?_⟩
    · show [some (V.ref b'), some (.ref b), some (.ref t), some (.int (mk17 tot (cntX (ss.take i)) * (if tot % 2 * (if isEx s = true then 1 else 0) = 1 then -1 else 1))), some (.int tot), some (.ref u)] = _
      rw [mk_step, cs]
    rw [tk, behind_snoc]
    exact hb.same sX
  obtain ⟨a', v5, rfl, sG, hA⟩ := hP
  have ll : (us.map V.ref).length = ss.length := by rw [List.length_map, lus]
  rw [ll, List.take_length] at hA
  rw [ll, List.take_length]
  have mb : mk17 tot (cntX ss) = 1 ∨ mk17 tot (cntX ss) = -1 := mk_one _ _
  have ml : (mk17 tot (cntX ss)).natAbs.log2 < 1920 := by
    rcases mb with e | e <;> rw [e] <;> decide
  refine ⟨_, rfl, _, rfl, _, _, hA.dp, (hS2.same sG).dp, sq_shaped rfl, sq_shaped rfl, true, ?_, iteT ?_⟩
  · rw [sq_eqv rfl rfl, e9, decide_eq_true rfl]
  refine ⟨_, rfl, t, _, 2, _, rfl, rfl, SqT.of (sG _ _ ht), rfl, _, rfl, ml, _, rfl, _, rfl, ml, rfl, ?_⟩
  rw [decide_eq_true rfl]
  exact q _ sG
end
end TC
/-! slices of a list with a step. -/
namespace TCX
open PySem PySem.Spec PyProof.Rows L2
theorem vals_at {xs : List V} {us : List Value} (h : Vals xs us) : ∀ i : Nat, (xs[i]? = none ∧ us[i]? = none) ∨ ∃ x u, xs[i]? = some x ∧ us[i]? = some u ∧ RelV x u := by
  induction h with
  | nil => exact fun i => .inl ⟨rfl, rfl⟩
  | cons r t ih =>
    intro i
    cases i with
    | zero => exact .inr ⟨_, _, rfl, rfl, r⟩
    | succ i => exact ih i
theorem vals_pick {xs : List V} {us : List Value} (h : Vals xs us) : ∀ is : List Nat, Vals (is.filterMap (xs[·]?)) (is.filterMap (us[·]?))
  | [] => .nil
  | i :: is => by
    rcases vals_at h i with ⟨e1, e2⟩ | ⟨x, u, e1, e2, r⟩
    · rw [List.filterMap_cons, List.filterMap_cons, e1, e2]
      exact vals_pick h is
    · rw [List.filterMap_cons, List.filterMap_cons, e1, e2]
      exact .cons r (vals_pick h is)
/-- the items of xs[lo:hi:st] -/
def stepV (xs : List V) (lo hi st : Option Int) : List V := (sliceRange (sliceBounds lo hi st xs.length).1 (sliceBounds lo hi st xs.length).2.1 (sliceBounds lo hi st xs.length).2.2).filterMap (xs[·]?)
section
variable {X : Cx} {e : Expr} {te : TE} {lo hi : Option Expr} {se : Expr} {tl th ts : TO} {pos p2 : Pos}
def tSl3 (K : PySem.W.Frag) (te : TE) (tl th ts : TO) : TE := fun σ H Q => te σ H fun x H1 => tl σ H1 fun l H2 => th σ H2 fun u H3 => ts σ H3 fun c H4 => ∃ a xs, x = .ref a ∧ SqL K H4 a xs ∧ c ≠ some 0 ∧ (stepV xs l u c).length ≤ sizeLine ∧ ∀ p, H4 p = none → Q (.ref p) (upd H4 p (.lst (stepV xs l u c)))
theorem pe_slice3 (he : PE X e te) (hl : PO X lo tl) (hu : PO X hi th) (hs : PO X (some se) ts) : PE X (.Subscript e (.Slice lo hi (some se) p2) pos) (tSl3 X.K te tl th ts) := by
  refine ⟨fun pins s σ H Q I h => ?_⟩
  refine Subscript_ (thn (he.run pins s σ H _ I h) fun v s1 ⟨x, H1, I1, r1, q1⟩ => ?_)
  refine wpAny_Slice (thn (hl.run pins s1 σ H1 _ I1 q1) fun vl s2 ⟨l, H2, I2, pl, q2⟩ => thn (hu.run pins s2 σ H2 _ I2 q2) fun vu s3 ⟨u, H3, I3, pu, q3⟩ => thn (hs.run pins s3 σ H3 _ I3 q3) fun vs s4 ⟨c, H4, I4, ps, q4⟩ => ?_)
  obtain ⟨a, xs, rfl, hx, hc, hz, q⟩ := q4
  have I5 : Inv X pins σ H4 { s4 with heap := s4.heap.push { cls := .type "slice", data := .fields #[vl, vu, vs] } } := I4.kept (t' := s4.toks) fun b ob q => Heap.get?_push_of_some _ q
  cases r1
  obtain ⟨its, r, ht, hz'⟩ := I5.list hx
  have hlen := r.length
  refine tail_any (ops := [.ref a, .ref s4.heap.objs.size]) (T := "list") ht.isList.typeIs slot_list_getitem.lookup ?_ (by with_unfolding_all rfl)
  refine wpAny_getItem_list_slice ht.isList (Heap.IsSliceOf.new ..) pl pu ps hc ?_ (by rw [List.size_toArray] <;> omega)
  have e : slicePick its.toArray l u c = ((sliceRange (sliceBounds l u c its.length).1 (sliceBounds l u c its.length).2.1 (sliceBounds l u c its.length).2.2).filterMap (its[·]?)).toArray := by
    unfold slicePick
    rw [List.size_toArray]
    simp only [List.getElem?_toArray]
  rw [e, ← hlen]
  refine ⟨.ref _, _, I5.laid (t' := s4.toks) (o := .lst (stepV xs l u c)) (fun b ob q => Heap.get?_push_of_some _ q) (Nat.le_refl _) ?_, rfl, q _ (I5.hok.fresh (Nat.le_refl _))⟩
  exact ⟨hz, _, 0, vals_pick r _, Heap.get?_push_size _ rfl⟩
end
end TCX
namespace TCX
open PySem PySem.Spec PyProof.Rows L2
theorem range_down (n : Nat) (hi : Nat) (h : hi ≤ n) : sliceRange ((n : Int) - 1) ((hi : Int) - 1) (-1) = (List.range (n - hi)).map fun k => n - 1 - k := by
  unfold sliceRange
  by_cases hn : hi < n
  · have e : ((n : Int) - 1 - ((hi : Int) - 1) - -1 - 1) / (- -1) = ((n - hi : Nat) : Int) := by
      rw [show (- -1 : Int) = 1 from rfl, Int.ediv_one]
      omega
    simp only [show ¬ ((-1 : Int) > 0) by decide, if_false, show ((n : Int) - 1 > (hi : Int) - 1) by omega, if_true, e, Int.toNat_natCast]
    refine List.map_congr_left fun k hk => ?_
    have := List.mem_range.mp hk
    omega
  · have e : n - hi = 0 := by omega
    simp only [show ¬ ((-1 : Int) > 0) by decide, if_false, show ¬ ((n : Int) - 1 > (hi : Int) - 1) by omega, e]
    rfl
theorem pick_down {α : Type} (xs : List α) : ∀ k : Nat, k ≤ xs.length → ((List.range k).map fun i => xs.length - 1 - i).filterMap (xs[·]?) = (xs.drop (xs.length - k)).reverse
  | 0, _ => by simp
  | k + 1, h => by
    rw [List.range_succ, List.map_append, List.filterMap_append, pick_down xs k (by omega)]
    have h1 : xs.length - 1 - k < xs.length := by omega
    have e : xs.length - (k + 1) = xs.length - 1 - k := by omega
    rw [e, List.drop_eq_getElem_cons h1, List.reverse_cons]
    have e2 : xs.length - 1 - k + 1 = xs.length - k := by omega
    rw [e2]
    congr 1
    simp [List.getElem?_eq_getElem h1]
/-- xs[::-1] -/
theorem step_rev (xs : List V) : stepV xs none none (some (-1)) = xs.reverse := by
  unfold stepV
  have e : sliceBounds none none (some (-1)) xs.length = ((xs.length : Int) - 1, ((0 : Nat) : Int) - 1, -1) := by
    unfold sliceBounds
    simp
  rw [e, range_down xs.length 0 (Nat.zero_le _), Nat.sub_zero, pick_down xs xs.length (Nat.le_refl _), Nat.sub_self]
  rfl
/-- xs[:0:-1] -/
theorem step_tail (xs : List V) : stepV xs none (some 0) (some (-1)) = (xs.drop 1).reverse := by
  unfold stepV
  cases xs with
  | nil => rfl
  | cons x xs =>
    have e : sliceBounds none (some 0) (some (-1)) (x :: xs).length = (((x :: xs).length : Int) - 1, ((1 : Nat) : Int) - 1, -1) := by
      unfold sliceBounds
      simp
      omega
    rw [e, range_down (x :: xs).length 1 (by simp), pick_down (x :: xs) _ (by omega)]
    have e2 : (x :: xs).length - ((x :: xs).length - 1) = 1 := by simp
    rw [e2]
end TCX
/-! t[::-1] of a tuple: a new tuple of its own items. -/
namespace TCX
open PySem PySem.Spec PyProof.Rows L2 HT
def downN (n : Nat) : List Nat := (List.range n).map fun (k : Nat) => ((n : Int) - 1 + (k : Int) * (-1)).toNat
section
variable {prog : Program} {w : World} {A : Around} {E : Value → Shared → Prop} {s : Shared}
theorem sliceDown {sl : Addr} {t : Tok} {n : Nat} {Q : Int × Int × Nat → Shared → Prop} (hs : s.heap.IsSliceOf sl .none .none (.int (-1) t)) (h : Q ((n : Int) - 1, -1, n) s) :
    wpAny (model prog w) A (Builtin.Slice.sliceApplied (.ref sl) (pure (n : Int))) Q E s := by
  obtain ⟨os, hos, hcs, hds⟩ := id hs
  unfold Builtin.Slice.sliceApplied Builtin.Slice.sliceFields
  refine wpAny_bind (wpAny_bind (wpAny_field hos hds (x := .none) rfl (wpAny_bind (wpAny_field hos hds (x := .none) rfl (wpAny_bind (wpAny_field hos hds (x := .int (-1) t) rfl (wpAny_pure ?_)))))))
  refine wpAny_bind (slicePart_int ?_)
  show wpAny _ _ (if ((-1 : Int) == 0) = true then _ else _) _ _ s
  rw [if_neg (by decide)]
  refine wpAny_bind (slicePart_none (wpAny_bind (slicePart_none (wpAny_bind (wpAny_pure ?_)))))
  show wpAny _ _ (pure ((n : Int) - 1, (-1 : Int), Builtin.Slice.slicePlaces ((n : Int) - 1) (-1) (-1))) _ _ s
  have e : Builtin.Slice.slicePlaces ((n : Int) - 1) (-1) (-1) = n := by
    unfold Builtin.Slice.slicePlaces
    rw [if_neg (by decide)]
    split
    · rw [show (-(-1 : Int)) = 1 from rfl, Int.ediv_one]
      omega
    · omega
  rw [e]
  exact wpAny_pure h
theorem getItem_tuple_down {tp sl : Addr} {t : Tok} {items : Array Value} {Q : Value → Shared → Prop} (ht : IsTup s.heap tp items) (hs : s.heap.IsSliceOf sl .none .none (.int (-1) t))
    (h : Q (.ref s.heap.objs.size) { s with heap := s.heap.push { cls := .type "tuple", data := .seq ((downN items.size).filterMap (items.toList[·]?)).toArray } })
    (hsz : items.size ≤ sizeLine) : wpAny (model prog w) A (getItem (.ref tp) (.ref sl)) Q E s := by
  have el : (downN items.size).length = items.size := by
    unfold downN
    rw [List.length_map, List.length_range]
  have htake : sizeOk (.seq ((downN items.size).filterMap (items.toList[·]?)).toArray) := by
    show ((downN items.size).filterMap (items.toList[·]?)).toArray.size ≤ sizeLine
    rw [List.size_toArray]
    have := List.length_filterMap_le (items.toList[·]?) (downN items.size)
    omega
  have ep : ((List.range items.size).filterMap fun (k : Nat) => items[((items.size : Int) - 1 + (k : Int) * (-1)).toNat]?) = (downN items.size).filterMap (items.toList[·]?) := by
    unfold downN
    rw [List.filterMap_map]
    congr 1
    funext k
    simp
  obtain ⟨os, hos, hcs, hds⟩ := id hs
  have hTs : s.TypeIs (.ref sl) "slice" := ⟨os, hos, hcs⟩
  unfold getItem
  try with_reducible refine wpAny_holding ?_
  first | refine wpAny_bind (wpAny_pure ?_) | skip
  refine wpAny_bind (wpAny_sequenceKey ht.typeIs (by decide) ?_)
  refine wpAny_bind (wpAny_callSpecial?_slot (name := Str.ofString "__getitem__") ht.typeIs PyProof.Rows.slot_tuple_getitem
    (wpAny_call_entry PyProof.Rows.slot_tuple_getitem ht.typeIs entry_tuple_getitem ?_ (args_tuple_getitem _ _)))
  show wpAny _ _ (Builtin.Tuple.tupleItemsOf (.ref tp) >>= _) _ _ s
  refine wpAny_bind (tupleItemsOf_ ht ?_)
  refine wpAny_bind (wpAny_typeOf hTs ?_)
  rw [if_pos (by decide)]
  refine wpAny_bind (sliceDown hs ?_)
  show wpAny _ _ (if (((items.size : Int) - 1) == 0 && (-1 : Int) == 1 && items.size == items.size) = true then _ else _) _ _ s
  have hno : ¬ ((((items.size : Int) - 1) == 0 && (-1 : Int) == 1 && items.size == items.size) = true) := by
    simp
  rw [if_neg hno, ep]
  first
    | exact wpAny_bind (m := Builtin.Tuple.tupleExact _) (wpAny_newObj_type (wpAny_pure ⟨_, rfl, wpAny_pure h⟩) htake)
    | exact wpAny_bind (m := Builtin.Tuple.tupleExact _) (wpAny_newObj_type (wpAny_bind (wpAny_pure (wpAny_pure ⟨_, rfl, wpAny_pure h⟩))) htake)
    | exact wpAny_bind (wpAny_bind (m := Builtin.Tuple.tupleExact _) (wpAny_newObj_type (wpAny_pure (wpAny_pure ⟨_, rfl, wpAny_pure h⟩)) htake))
    | exact wpAny_bind (wpAny_bind (m := Builtin.Tuple.tupleExact _) (wpAny_newObj_type (wpAny_pure ⟨_, rfl, wpAny_pure h⟩) htake))
end
section
variable {X : Cx} {e : Expr} {te : TE} {se : Expr} {ts : TO} {pos p2 : Pos}
def tDownT (K : PySem.W.Frag) (te : TE) (tl th ts : TO) : TE := fun σ H Q => te σ H fun x H1 => tl σ H1 fun l H2 => th σ H2 fun u H3 => ts σ H3 fun c H4 => ∃ a xs, x = .ref a ∧ SqT K H4 a xs ∧ l = none ∧ u = none ∧ c = some (-1) ∧ ∀ p ys, H4 p = none → (∀ y ∈ ys, y ∈ xs) → ys.length ≤ xs.length → Q (.ref p) (upd H4 p (.tup ys))
theorem pe_downT {lo hi : Option Expr} {tl th : TO} (he : PE X e te) (hl : PO X lo tl) (hu : PO X hi th) (hs : PO X (some se) ts) : PE X (.Subscript e (.Slice lo hi (some se) p2) pos) (tDownT X.K te tl th ts) := by
  refine ⟨fun pins s σ H Q I h => ?_⟩
  refine Subscript_ (thn (he.run pins s σ H _ I h) fun v s1 ⟨x, H1, I1, r1, q1⟩ => ?_)
  refine wpAny_Slice (thn (hl.run pins s1 σ H1 _ I1 q1) fun vl s2 ⟨l, H2, I2, pl, q2⟩ => thn (hu.run pins s2 σ H2 _ I2 q2) fun vu s3 ⟨u, H3, I3, pu, q3⟩ => thn (hs.run pins s3 σ H3 _ I3 q3) fun vs s4 ⟨c, H4, I4, ps, q4⟩ => ?_)
  obtain ⟨a, xs, rfl, hx, rfl, rfl, rfl, q⟩ := q4
  have I5 : Inv X pins σ H4 { s4 with heap := s4.heap.push { cls := .type "slice", data := .fields #[vl, vu, vs] } } := I4.kept (t' := s4.toks) fun b ob q => Heap.get?_push_of_some _ q
  cases r1
  cases pl
  cases pu
  cases ps
  obtain ⟨its, r, ht, hz⟩ := I5.tuple hx
  have hlen := r.length
  refine tail_any (ops := [.ref a, .ref s4.heap.objs.size]) (T := "tuple") ht.typeIs PyProof.Rows.slot_tuple_getitem.lookup ?_ (by with_unfolding_all rfl)
  refine getItem_tuple_down ht (Heap.IsSliceOf.new ..) ?_ (by rw [List.size_toArray]; omega)
  have e0 : its.toArray.size = xs.length := by rw [List.size_toArray]; omega
  rw [e0]
  have hl2 : ((downN xs.length).filterMap (xs[·]?)).length ≤ xs.length := by
    have z := List.length_filterMap_le (xs[·]?) (downN xs.length)
    have : (downN xs.length).length = xs.length := by
      unfold downN
      rw [List.length_map, List.length_range]
    omega
  refine ⟨.ref _, _, I5.laid (t' := s4.toks) (o := .tup ((downN xs.length).filterMap (xs[·]?))) (fun b ob q => Heap.get?_push_of_some _ q) (Nat.le_refl _) ?_, rfl, q _ _ (I5.hok.fresh (Nat.le_refl _)) (fun y hy => ?_) hl2⟩
  · exact ⟨Nat.le_trans hl2 (by omega), _, vals_pick r _, IsTup.new _ _⟩
  · obtain ⟨i, _, e⟩ := List.mem_filterMap.mp hy
    exact List.mem_of_getElem? e
end
end TCX
/-! t[::-1] of a tuple: its own items the other way about. -/
namespace TCX
open PySem PySem.Spec PyProof.Rows L2 HT
section
variable {X : Cx} {e : Expr} {te : TE} {se : Expr} {ts : TO} {pos p2 : Pos}
def turnV (xs : List V) : List V := (downN xs.length).filterMap (xs[·]?)
def tTurnT (K : PySem.W.Frag) (te : TE) (tl th ts : TO) : TE := fun σ H Q => te σ H fun x H1 => tl σ H1 fun l H2 => th σ H2 fun u H3 => ts σ H3 fun c H4 => ∃ a xs, x = .ref a ∧ SqT K H4 a xs ∧ l = none ∧ u = none ∧ c = some (-1) ∧ ∀ p, H4 p = none → Q (.ref p) (upd H4 p (.tup (turnV xs)))
theorem pe_turnT {lo hi : Option Expr} {tl th : TO} (he : PE X e te) (hl : PO X lo tl) (hu : PO X hi th) (hs : PO X (some se) ts) : PE X (.Subscript e (.Slice lo hi (some se) p2) pos) (tTurnT X.K te tl th ts) := by
  refine ⟨fun pins s σ H Q I h => ?_⟩
  refine Subscript_ (thn (he.run pins s σ H _ I h) fun v s1 ⟨x, H1, I1, r1, q1⟩ => ?_)
  refine wpAny_Slice (thn (hl.run pins s1 σ H1 _ I1 q1) fun vl s2 ⟨l, H2, I2, pl, q2⟩ => thn (hu.run pins s2 σ H2 _ I2 q2) fun vu s3 ⟨u, H3, I3, pu, q3⟩ => thn (hs.run pins s3 σ H3 _ I3 q3) fun vs s4 ⟨c, H4, I4, ps, q4⟩ => ?_)
  obtain ⟨a, xs, rfl, hx, rfl, rfl, rfl, q⟩ := q4
  have I5 : Inv X pins σ H4 { s4 with heap := s4.heap.push { cls := .type "slice", data := .fields #[vl, vu, vs] } } := I4.kept (t' := s4.toks) fun b ob q => Heap.get?_push_of_some _ q
  cases r1
  cases pl
  cases pu
  cases ps
  obtain ⟨its, r, ht, hz⟩ := I5.tuple hx
  have hlen := r.length
  refine tail_any (ops := [.ref a, .ref s4.heap.objs.size]) (T := "tuple") ht.typeIs PyProof.Rows.slot_tuple_getitem.lookup ?_ (by with_unfolding_all rfl)
  refine getItem_tuple_down ht (Heap.IsSliceOf.new ..) ?_ (by rw [List.size_toArray]; omega)
  have e0 : its.toArray.size = xs.length := by rw [List.size_toArray]; omega
  rw [e0]
  have hl2 : ((downN xs.length).filterMap (xs[·]?)).length ≤ xs.length := by
    have z := List.length_filterMap_le (xs[·]?) (downN xs.length)
    have : (downN xs.length).length = xs.length := by
      unfold downN
      rw [List.length_map, List.length_range]
    omega
  refine ⟨.ref _, _, I5.laid (t' := s4.toks) (o := .tup ((downN xs.length).filterMap (xs[·]?))) (fun b ob q => Heap.get?_push_of_some _ q) (Nat.le_refl _) ?_, rfl, q _ (I5.hok.fresh (Nat.le_refl _))⟩
  exact ⟨Nat.le_trans hl2 (by omega), _, vals_pick r _, IsTup.new _ _⟩
end
end TCX
namespace TC
set_option exponentiation.threshold 2000
open PySem PySem.Spec PyProof.Rows L2 TCA TCX
/-! ### K18M6: _law_other -/
theorem Tri.back {a u b v c w : Int} (h : Tri a u b v c w) : Tri c w b v a u := ⟨h.p3, h.p2, h.p1, canB_iff.mpr (by have := canB_iff.mp h.j; omega), by have := h.z; omega⟩
theorem Tri.turn' {a u b v c w : Int} (h : Tri a u b v c w) : Tri b v c w a u := ⟨h.p2, h.p3, h.p1, canB_iff.mpr (by have := canB_iff.mp h.j; omega), by have := h.z; omega⟩
theorem Tri.moved {a u b v c w : Int} (h : Tri a u b v c w) (h1 : u ≠ a) (h2 : v ≠ 0 - b) : Tri a (u + 2) b (v - 2) c w := by
  obtain ⟨⟨a0, a1, a2, a3, a4⟩, ⟨b0, b1, b2, b3, b4⟩, p3, j, z⟩ := h
  exact ⟨⟨a0, a1, by omega, by omega, by omega⟩, ⟨b0, b1, by omega, by omega, by omega⟩, p3, j, by omega⟩
section
variable {P : Program} {w : World} {K : PySem.W.Frag} {mg : Str → Option Value} {base : Heap} {f : Addr} {fd : FuncData}
def spOtherL : Sp := fun vs H Q _ => ∃ (p c tp : Addr) (ms : List Int) (n a u b v d w : Int), vs = [.ref p, .ref tp] ∧ PenAt H p c ms n ∧ 0 ≤ n ∧ n ≤ 600000 ∧ Tri a u b v d w ∧ ThreeAt H tp (a, u) (b, v) (d, w) ∧
  ∀ (t : Addr) (a' u' b' v' d' w' n' : Int) H', Tri a' u' b' v' d' w' → ThreeAt H' t (a', u') (b', v') (d', w') → n ≤ n' → n' ≤ n + 20 → PenAt H' p c ms n' → SameBut p H H' → Q (.ref t) H'
abbrev nOtherL : List Str := ["_law_pen_here", "_law_pairs_here", "_law_kind", "_law_square_here", "_law_forms_here", "_law_form", "_law_mark", "_law_goal", "_law_found", "_law_k", "_law_size", "_law_u", "_law_at", "_law_one", "_law_other_here"]
theorem scOtherL : FnScope nOtherL ["_law_pen_here", "_law_pairs_here"] (defScope sOtherL) := ⟨rfl, rfl, rfl, by decide +kernel, rfl, by decide +kernel, by decide +kernel⟩
set_option maxHeartbeats 0 in
theorem ok_otherL {fD fT fS fF : Addr} {fdD fdT fdS fdF : FuncData} (F : FnP K "_law_other" sOtherL f fd)
    (GD : FnOk P w K mg base CX0 1 fD fdD ["_law_pen_here", "_law_many"] spDraw) (bD : L2.Binds K fdD ["_law_pen_here", "_law_many"] []) (kD : PySem.W.keepIn K (.ref fD) = true) (gD : mg "_law_draw" = some (.ref fD))
    (GTr : FnOk P w K mg base CX0 4 fT fdT ["_law_pen_here", "_law_high"] spTriple17) (bTr : L2.Binds K fdT ["_law_pen_here", "_law_high"] []) (kTr : PySem.W.keepIn K (.ref fT) = true) (gTr : mg "_law_triple" = some (.ref fT))
    (GSq : FnOk P w K mg base CX0 1 fS fdS ["_law_pairs_here"] spSquareL) (bSq : L2.Binds K fdS ["_law_pairs_here"] []) (kSq : PySem.W.keepIn K (.ref fS) = true) (gSq : mg "_law_square" = some (.ref fS))
    (GFo : FnOk P w K mg base CX0 2 fF fdF ["_law_square_here"] spFormsL) (bFo : L2.Binds K fdF ["_law_square_here"] []) (kFo : PySem.W.keepIn K (.ref fF) = true) (gFo : mg "_law_forms" = some (.ref fF))
    (gtuple : mg "tuple" = none) (grange : mg "range" = none) (gmax : mg "max" = none) : FnOk P w K mg base CX0 5 f fd ["_law_pen_here", "_law_pairs_here"] spOtherL := by
  refine F.ok scOtherL (fun vs H Q E h => ?_) (fun cdv A outer s H vs Q E hr h => ?_)
  · obtain ⟨_, _, _, _, _, _, _, _, _, _, _, rfl, _⟩ := h
    rfl
  obtain ⟨p, c, tp, ms, n, a, u, b, v, d, w, rfl, pen, n0, n1, T, hT, q⟩ := h
  have hr1 := hr.mono (show 1 ≤ 4 by decide)
  have hr2 := hr.mono (show 2 ≤ 4 by decide)
  refine ⟨_, PSs.nox (C8.pss_cut (ps_set (i := 2) scOtherL.nd rfl (.inl rfl) (pe_call GD hr1 (by rfl) gD kD bD .nil pass0 (pa_cons (pv 0) (pa_cons pe_int pa_nil))))
      (C8.pss_cut (ps_if (pt_cmpR op_eq (pv 2) pe_int (nomark _)) (pss_one (ps_ret (pe_call GTr hr (by rfl) gTr kTr bTr .nil pass0 (pa_cons (pv 0) (pa_cons pe_int pa_nil))))) pss_nil)
      (C8.pss_cut (ps_set (i := 3) scOtherL.nd rfl (.inl rfl) (pe_call GSq hr1 (by rfl) gSq kSq bSq .nil pass0 (pa_cons (pv 1) pa_nil)))
      (C8.pss_cut (ps_setLc (i := 4) (own := [("_law_form", 5), ("_law_mark", 6)]) (g := gTup K 2 (gCons (gName 5) (gCons (gName 6) gNil))) (tt := tYes) (te := (tVar 5)) (by rfl) scOtherL.nd rfl rfl (sw_true rfl rfl rfl (by decide +kernel)) (pi_list (pe_call GFo hr2 (by rfl) gFo kFo bFo .nil pass0 (pa_cons (pv 3) pa_nil)))
          (blkOk_by (N := nOtherL) (sc := defScope sOtherL) (by decide +kernel)) (fun _ _ _ _ _ => pg_tup rfl (pgs_cons (pg_name (i := 5) scOtherL.nd rfl (.inl rfl)) (pgs_cons (pg_name (i := 6) scOtherL.nd rfl (.inl rfl)) pgs_nil))) (fun _ _ _ _ _ => pts_nil) (fun _ _ _ _ _ => (pv 5)))
      (C8.pss_cut (ps_set (i := 7) scOtherL.nd rfl (.inr rfl) (pe_ix ix_list (pv 4) (pe_call GD hr1 (by rfl) gD kD bD .nil pass0 (pa_cons (pv 0) (pa_cons pe_int pa_nil))) (fun _ _ => rfl)))
      (C8.pss_cut (ps_set (i := 8) scOtherL.nd rfl (.inl rfl) (pe_callTy call_tuple_of (by rfl) gtuple (by decide +kernel) (pa_cons (pe_lc (own := [("_law_k", 9)]) (g := gName 9) (tt := tYes) (te := (tTup (tCons (tOp (rI0 fun i j => .int (i + j)) (tOp (rIxT K) (tOp (rIxT K) (tVar 7) (tC (.int 1))) (tVar 9)) (tOp (rIxT K) (tOp (rIxT K) (tVar 7) (tC (.int 2))) (tVar 9))) (tCons (tOp (rI0 fun i j => .int (i - j)) (tOp (rIxT K) (tOp (rIxT K) (tVar 7) (tC (.int 2))) (tVar 9)) (tOp (rIxT K) (tOp (rIxT K) (tVar 7) (tC (.int 1))) (tVar 9))) tNil)))) (by rfl) scOtherL.nd (pi_range1 (by rfl) grange (pa_cons pe_int pa_nil))
          (blkOk_by (N := nOtherL) (sc := defScope sOtherL) (by decide +kernel)) (fun _ _ _ _ _ => pg_name (i := 9) scOtherL.nd rfl (.inl rfl)) (fun _ _ _ _ _ => pts_nil) (fun _ _ _ _ _ => (pe_tup (pa_cons (pe_op op_add (pe_ix ix_tup (pe_ix ix_tup (pv 7) pe_int (fun _ _ => rfl)) (pv 9) (fun _ _ => rfl)) (pe_ix ix_tup (pe_ix ix_tup (pv 7) pe_int (fun _ _ => rfl)) (pv 9) (fun _ _ => rfl))) (pa_cons (pe_op op_sub (pe_ix ix_tup (pe_ix ix_tup (pv 7) pe_int (fun _ _ => rfl)) (pv 9) (fun _ _ => rfl)) (pe_ix ix_tup (pe_ix ix_tup (pv 7) pe_int (fun _ _ => rfl)) (pv 9) (fun _ _ => rfl))) pa_nil))))) pa_nil)))
      (C8.pss_cut (ps_if (pt_cmpR op_gt (pe_callB (cr_max rfl) (by rfl) gmax (by decide +kernel) (pa_cons (pe_lc (own := [("_law_size", 10), ("_law_u", 11)]) (g := gTup K 2 (gCons (gName 10) (gCons (gName 11) gNil))) (tt := tYes) (te := (tVar 10)) (by rfl) scOtherL.nd (pi_tup (pv 8))
          (blkOk_by (N := nOtherL) (sc := defScope sOtherL) (by decide +kernel)) (fun _ _ _ _ _ => pg_tup rfl (pgs_cons (pg_name (i := 10) scOtherL.nd rfl (.inl rfl)) (pgs_cons (pg_name (i := 11) scOtherL.nd rfl (.inl rfl)) pgs_nil))) (fun _ _ _ _ _ => pts_nil) (fun _ _ _ _ _ => (pv 10))) pa_nil)) pe_int (nomark _)) (pss_one (ps_ret (pe_turnT (pv 1) po_none po_none (po_some (pe_un un_neg pe_int))))) pss_nil)
      (C8.pss_cut (ps_set (i := 12) scOtherL.nd rfl (.inl rfl) (pe_call GD hr1 (by rfl) gD kD bD .nil pass0 (pa_cons (pv 0) (pa_cons pe_int pa_nil))))
      (C8.pss_cut (ps_par (i := 13) (j := 14) (by rfl) scOtherL.nd rfl rfl (by decide) rfl rfl (pa_cons (pe_ix ix_tup (pv 8) (pv 12) (fun _ _ => rfl)) (pa_cons (pe_ix ix_tup (pv 8) (pe_op op_mod (pe_op op_add (pv 12) pe_int) pe_int) (fun _ _ => rfl)) pa_nil)) (by rfl))
      (C8.pss_cut (ps_if (PW.pt (pw_or (pt_cmpR op_ne (pv 2) pe_int (nomark _)) (pw_or (pt_cmpR op_eq (pe_ix ix_tup (pv 13) pe_int (fun _ _ => rfl)) (pe_ix ix_tup (pv 13) pe_int (fun _ _ => rfl)) (nomark _)) (pw_or1 (pt_cmpR op_eq (pe_ix ix_tup (pv 14) pe_int (fun _ _ => rfl)) (pe_op op_sub pe_int (pe_ix ix_tup (pv 14) pe_int (fun _ _ => rfl))) (nomark _)))))) (pss_one (ps_ret (pv 8))) pss_nil)
      (pss_one (ps_ret (pe_tup (pa_cons (pe_tup (pa_cons (pe_ix ix_tup (pv 13) pe_int (fun _ _ => rfl)) (pa_cons (pe_op op_add (pe_ix ix_tup (pv 13) pe_int (fun _ _ => rfl)) pe_int) pa_nil))) (pa_cons (pe_tup (pa_cons (pe_ix ix_tup (pv 14) pe_int (fun _ _ => rfl)) (pa_cons (pe_op op_sub (pe_ix ix_tup (pv 14) pe_int (fun _ _ => rfl)) pe_int) pa_nil))) (pa_cons (pe_ix ix_tup (pv 8) (pe_op op_mod (pe_op op_add (pv 12) pe_int) pe_int) (fun _ _ => rfl)) pa_nil)))))))))))))))), ?_⟩
  refine ⟨fun σ G => ∃ kd m1 : Int, σ = [some (.ref p), some (.ref tp), some (.int kd), none, none, none, none, none, none, none, none, none, none, none, none] ∧ PenAt G p c ms m1 ∧ n ≤ m1 ∧ m1 ≤ n + 1 ∧ SameBut p H G, ?_, fun σ G hh => ?_⟩
  · exact ⟨_, rfl, p, c, ms, n, 6, rfl, pen, n0, by omega, by decide, by decide, fun k n' H' c0 c1 w0 w1 pen1 s1 => ⟨k, n', rfl, pen1, w0, w1, s1⟩⟩
  obtain ⟨kd, m1, rfl, pen1, w0, w1, sb1⟩ := hh
  have pq : ∀ {H' : Hp} {x : Addr} {zs : List V}, SameBut p H H' → H x = some (.tup zs) → H' x = some (.tup zs) := fun {H' x zs} sb e => sb _ _ (fun z => by
    obtain ⟨l, hl, _⟩ := pen
    rw [z, hl] at e
    cases e) e
  have hT1 : ThreeAt G tp (a, u) (b, v) (d, w) := by
    obtain ⟨p1, p2, p3, h0, h1, h2, h3⟩ := hT
    exact ⟨p1, p2, p3, pq sb1 h0, pq sb1 h1, pq sb1 h2, pq sb1 h3⟩
  refine ⟨fun σ G' => σ = [some (.ref p), some (.ref tp), some (.int kd), none, none, none, none, none, none, none, none, none, none, none, none] ∧ G' = G, ?_, fun σ G' hh => ?_⟩
  · refine ⟨_, rfl, rfl, _, rfl, ?_⟩
    by_cases k0 : V.int kd = V.int 0
    · refine iteD1 k0 ?_
      exact ⟨_, rfl, p, c, ms, m1, 9, rfl, pen1, by omega, by omega, by decide, by decide, fun t a' u' b' v' d' w' n' H' T' hT' w2 w3 pen2 s2 => q t a' u' b' v' d' w' n' H' T' hT' (by omega) (by omega) pen2 (sb1.trans s2)⟩
    · exact iteD0 k0 ⟨rfl, rfl⟩
  obtain ⟨rfl, rfl⟩ := hh
  refine ⟨fun σ G2 => ∃ sq : Addr, σ = [some (.ref p), some (.ref tp), some (.int kd), some (.ref sq), none, none, none, none, none, none, none, none, none, none, none] ∧ Same G' G2 ∧ SqA G2 sq (sqF (sqN a u b v d w)), ⟨_, rfl, tp, a, u, b, v, d, w, rfl, hT1, fun t' H' s' h' => ⟨t', rfl, s', h'⟩⟩, fun σ G2 hh => ?_⟩
  obtain ⟨sq, rfl, s2, hsq⟩ := hh
  have mag : Mag (sqF (sqN a u b v d w)) ((a + b + d) / 2) := tri_mag T
  have pen2 := pen1.same s2
  have sb2 := sb1.trans (Same.but s2)
  obtain ⟨g, eg⟩ : ∃ g, sqN a u b v d w = g := ⟨_, rfl⟩
  obtain ⟨J, eJ⟩ : ∃ J, (a + b + d) / 2 = J := ⟨_, rfl⟩
  rw [eg] at hsq mag
  rw [eJ] at mag
  refine ⟨fun σ G3 => ∃ (D : Addr) (bs : List Addr), σ = [some (.ref p), some (.ref tp), some (.int kd), some (.ref sq), some (.ref D), none, none, none, none, none, none, none, none, none, none] ∧ Same G2 G3 ∧ D ≠ p ∧ G3 D = some (.lst (bs.map V.ref)) ∧ bs.length = 72 ∧ ∀ (j : Nat) b', bs[j]? = some b' → ∃ S, SqA G3 b' S ∧ Mag S J, ?_, fun σ G3 hh => ?_⟩
  · refine ⟨_, rfl, sq, g, rfl, hsq, fun l us H' s' hln hl hF => ⟨l, rfl, ⟨_, SqL.of hl⟩, fun D hD => ?_⟩⟩
    have lF : us.length = 72 := by rw [hF.len]; rfl
    refine lc_list (xs := us.map V.ref) (fun i G3 => Same H' G3 ∧ ∃ bs : List Addr, G3 D = some (.lst (bs.map V.ref)) ∧ bs.length = i ∧ ∀ (j : Nat) b', bs[j]? = some b' → ∃ S, SqA G3 b' S ∧ Mag S J) ⟨same_upd hD, [], upd_same, rfl, fun j b' h => by simp at h⟩ (fun i G3 _ hP => SqL.of (hP.1 _ _ hl)) (fun i x G3 hx hP => ?_) (fun G3 hP => ?_)
    · obtain ⟨sG, bs, hG, lb, hB⟩ := hP
      rw [List.getElem?_map] at hx
      obtain ⟨u', hu', rfl⟩ := Option.map_eq_some_iff.mp hx
      have il := (List.getElem?_eq_some_iff.mp hu').1
      obtain ⟨y, hy⟩ : ∃ y, (frmsL g)[i]? = some y := ⟨_, List.getElem?_eq_getElem (by have := hF.len; omega)⟩
      obtain ⟨b', S, h1, h2, h3⟩ := (hF.at_ i u' y hu' hy).same sG
      obtain ⟨S2, e3, mg⟩ := mag.form (List.mem_of_getElem? hy)
      have mS : Mag S J := mg.of (e3.trans h3.symm)
      refine ⟨u', _, rfl, SqT.of h1, rfl, _, _, rfl, _, _, rfl, rfl, rfl, ?_⟩
      refine ⟨_, rfl, _, hG, ?_, same_at sG hD, bs ++ [b'], ?_, ?_, fun j b2 e2 => ?_⟩
      · rw [List.length_map, lb]
        exact Nat.lt_of_le_of_lt (m := 72) (by omega) (by decide)
      · rw [upd_same, List.map_append]
        rfl
      · rw [List.length_append, lb]
        rfl
      · have kt : ∀ {c : Addr} {zs : List V} {o : HO}, G3 c = some (.tup zs) → (upd G3 D o) c = some (.tup zs) := fun {c zs o} e => by
          rw [upd_ne fun z => by rw [z, hG] at e; cases e]
          exact e
        have ks : ∀ {c : Addr} {S : Nat → Nat → Int} {o : HO}, SqA G3 c S → SqA (upd G3 D o) c S := fun {c S o} ⟨r0, r1, r2, g0, g1, g2, g3⟩ => ⟨r0, r1, r2, kt g0, kt g1, kt g2, kt g3⟩
        by_cases z : j < bs.length
        · rw [List.getElem?_append_left z] at e2
          obtain ⟨S', q1, q2⟩ := hB j b2 e2
          exact ⟨S', ks q1, q2⟩
        · have jl := (List.getElem?_eq_some_iff.mp e2).1
          rw [List.length_append] at jl
          have ej : j = bs.length := by
            have : ([b'] : List Addr).length = 1 := rfl
            omega
          rw [ej, List.getElem?_append_right (Nat.le_refl _), Nat.sub_self] at e2
          cases e2
          exact ⟨S, ks h2, mS⟩
    · obtain ⟨sG, bs, hG, lb, hB⟩ := hP
      exact ⟨D, bs, rfl, s'.trans sG, PenAt.ne (pen2.same s') hD, hG, by rw [lb, List.length_map, lF], hB⟩
  obtain ⟨D, bs, rfl, s3, Dp, hD, lbs, hB⟩ := hh
  have pen3 := pen2.same s3
  have sb3 := sb2.trans (Same.but s3)
  refine ⟨fun σ G4 => ∃ (go : Addr) (S : Nat → Nat → Int) (m2 : Int), σ = [some (.ref p), some (.ref tp), some (.int kd), some (.ref sq), some (.ref D), none, none, some (.ref go), none, none, none, none, none, none, none] ∧ SqA G4 go S ∧ Mag S J ∧ PenAt G4 p c ms m2 ∧ m1 ≤ m2 ∧ m2 ≤ m1 + 1 ∧ SameBut p H G4, ?_, fun σ G4 hh => ?_⟩
  · refine ⟨_, rfl, _, rfl, p, c, ms, m1, 72, rfl, pen3, by omega, by omega, by decide, by decide, fun e n3 G5 e0 e1 x0 x1 r5 t5 => ?_⟩
    have kp : ∀ {x : Addr} {zs : List V}, G3 x = some (.tup zs) → G5 x = some (.tup zs) := fun {x zs} ex => t5 _ _ (fun z => by
      obtain ⟨l, hl, _⟩ := pen3
      rw [z, hl] at ex
      cases ex) ex
    obtain ⟨j, rfl⟩ : ∃ j : Nat, e = (j : Int) := ⟨e.toNat, by omega⟩
    obtain ⟨b', hb'⟩ : ∃ b', bs[j]? = some b' := ⟨_, List.getElem?_eq_getElem (by omega)⟩
    obtain ⟨S, ⟨r0, r1, r2, q0, q1, q2, q3⟩, mS⟩ := hB j b' hb'
    exact ⟨D, _, _, .ref b', rfl, rfl, SqL.of (t5 _ _ Dp hD), atI_nat (j := j) (by rw [List.getElem?_map, hb']; rfl), b', S, n3, rfl, ⟨r0, r1, r2, kp q0, kp q1, kp q2, kp q3⟩, mS, r5, x0, x1, sb3.trans t5⟩
  obtain ⟨go, S, m2, rfl, hgo, magS, pen4, y0, y1, sb4⟩ := hh
  refine ⟨fun σ G5 => ∃ (fo q1 q2 q3 : Addr), σ = [some (.ref p), some (.ref tp), some (.int kd), some (.ref sq), some (.ref D), none, none, some (.ref go), some (.ref fo), none, none, none, none, none, none] ∧ Same G4 G5 ∧ G5 fo = some (.tup [.ref q1, .ref q2, .ref q3]) ∧ Prs3 G5 q1 q2 q3 (S 1 0 + S 2 0) (S 2 0 - S 1 0) (S 1 1 + S 2 1) (S 2 1 - S 1 1) (S 1 2 + S 2 2) (S 2 2 - S 1 2), ?_, fun σ G5 hh => ?_⟩
  · obtain ⟨r, hr0, hrow⟩ := hgo.get
    refine ⟨3, rfl, by decide, by decide, fun D hD => lc_range (lo := 0) (n := 3) (fun k G => Same G4 G ∧ ∃ cs : List Addr, G D = some (.lst (cs.map V.ref)) ∧ cs.length = k ∧ ∀ (j : Nat) x, cs[j]? = some x → G x = some (.tup [.int (S 1 j + S 2 j), .int (S 2 j - S 1 j)])) ⟨same_upd hD, [], upd_same, rfl, fun j x h => by simp at h⟩ (fun k G hk hP => ?_) (fun G hP => ?_)⟩
    · obtain ⟨sG, cs, hcs, lcs, hR⟩ := hP
      have i1 : atI (rowV S 1) (0 + (k : Int)) = some (.int (S 1 k)) := by
        rw [Int.zero_add]
        exact at3 (fun n => .int (S 1 n)) hk
      have i2 : atI (rowV S 2) (0 + (k : Int)) = some (.int (S 2 k)) := by
        rw [Int.zero_add]
        exact at3 (fun n => .int (S 2 n)) hk
      have t0 := sG _ _ hr0
      have t1 := sG _ _ (hrow 1 (by decide))
      have t2 := sG _ _ (hrow 2 (by decide))
      refine ⟨rfl, ?_⟩
      refine ⟨_, rfl, go, _, 1, _, rfl, rfl, SqT.of t0, atI_nat (j := 1) rfl, _, rfl, r 1, _, _, _, rfl, rfl, SqT.of t1, i1, ?_⟩
      refine ⟨_, rfl, go, _, 2, _, rfl, rfl, SqT.of t0, atI_nat (j := 2) rfl, _, rfl, r 2, _, _, _, rfl, rfl, SqT.of t2, i2, _, _, rfl, rfl, ?_⟩
      refine ⟨_, rfl, go, _, 2, _, rfl, rfl, SqT.of t0, atI_nat (j := 2) rfl, _, rfl, r 2, _, _, _, rfl, rfl, SqT.of t2, i2, ?_⟩
      refine ⟨_, rfl, go, _, 1, _, rfl, rfl, SqT.of t0, atI_nat (j := 1) rfl, _, rfl, r 1, _, _, _, rfl, rfl, SqT.of t1, i1, _, _, rfl, rfl, by show 2 ≤ sizeLine; decide, fun t ht => ?_⟩
      have st := same_upd (o := .tup [.int (S 1 k + S 2 k), .int (S 2 k - S 1 k)]) ht
      have hcs' := st _ _ hcs
      refine ⟨_, hcs', ?_, same_at (sG.trans st) hD, cs ++ [t], ?_, ?_, ?_⟩
      · rw [List.length_map, sizeLine_eq]
        omega
      · rw [upd_same, List.map_append]
        rfl
      · rw [List.length_append, lcs]
        rfl
      · exact rows_snoc (R := fun j => [.int (S 1 j + S 2 j), .int (S 2 j - S 1 j)]) hcs' (fun j x e => st _ _ (hR j x e)) (by rw [lcs]; exact upd_same)
    · obtain ⟨sG, cs, hcs, lcs, hR⟩ := hP
      refine ⟨D, _, rfl, .inl ⟨SqL.of hcs, fun t ht => ?_⟩⟩
      have st := same_upd (o := .tup (cs.map V.ref)) ht
      match cs, lcs, hcs, hR, st, ht with
      | [c0, c1, c2], _, hcs, hR, st, ht => exact ⟨t, c0, c1, c2, rfl, sG.trans st, upd_same, st _ _ (hR 0 c0 rfl), st _ _ (hR 1 c1 rfl), st _ _ (hR 2 c2 rfl)⟩
  obtain ⟨fo, q1, q2, q3, rfl, s5, hfo, hQ⟩ := hh
  have pen5 := pen4.same s5
  have sb5 := sb4.trans (Same.but s5)
  refine ⟨fun σ G6 => σ = [some (.ref p), some (.ref tp), some (.int kd), some (.ref sq), some (.ref D), none, none, some (.ref go), some (.ref fo), none, none, none, none, none, none] ∧ Same G5 G6 ∧ S 1 0 + S 2 0 ≤ 40 ∧ S 1 1 + S 2 1 ≤ 40 ∧ S 1 2 + S 2 2 ≤ 40, ?_, fun σ G6 hh => ?_⟩
  · refine ⟨_, rfl, fo, rfl, ⟨_, SqT.of hfo⟩, fun D2 hD2 => lc_tup (xs := [V.ref q1, .ref q2, .ref q3]) (fun j G => Same G5 G ∧ G D2 = some (.lst (([S 1 0 + S 2 0, S 1 1 + S 2 1, S 1 2 + S 2 2].map V.int).take j))) ⟨same_upd hD2, upd_same⟩ (fun j G _ hP => SqT.of (hP.1 _ _ hfo)) (fun j x G hx hP => ?_) (fun G hP => ?_)⟩
    · obtain ⟨sG, hG'⟩ := hP
      obtain ⟨qj, sz, of_, rfl, hq, hsz, j3⟩ : ∃ (qj : Addr) (sz of_ : Int), x = .ref qj ∧ G5 qj = some (.tup [.int sz, .int of_]) ∧ ([S 1 0 + S 2 0, S 1 1 + S 2 1, S 1 2 + S 2 2].map V.int)[j]? = some (.int sz) ∧ j < 3 := match j, hx with
        | 0, hx => ⟨q1, _, _, (Option.some.inj hx).symm, hQ.1, rfl, by decide⟩
        | 1, hx => ⟨q2, _, _, (Option.some.inj hx).symm, hQ.2.1, rfl, by decide⟩
        | 2, hx => ⟨q3, _, _, (Option.some.inj hx).symm, hQ.2.2, rfl, by decide⟩
        | j + 3, hx => by cases hx
      refine ⟨qj, _, rfl, SqT.of (sG _ _ hq), rfl, _, _, rfl, _, _, rfl, rfl, rfl, ?_⟩
      refine ⟨_, rfl, _, hG', ?_, same_at sG hD2, ?_⟩
      · exact Nat.lt_of_le_of_lt (List.length_take_le _ _) (by show j < sizeLine; rw [sizeLine_eq]; omega)
      · rw [upd_same, List.take_add_one, hsz]
        rfl
    obtain ⟨sG, hGD⟩ := hP
    refine ⟨D2, [S 1 0 + S 2 0, S 1 1 + S 2 1, S 1 2 + S 2 2], rfl, SqL.of hGD, (show 0 < 3 by decide), fun m hm hle => ?_⟩
    refine ⟨m, 40, rfl, rfl, _, rfl, ?_⟩
    by_cases z : m > 40
    · refine iteD1 z ?_
      have sbG := sb5.trans (Same.but sG)
      obtain ⟨p1, p2, p3, h0, h1, h2, h3⟩ := hT
      refine ⟨_, rfl, 1, rfl, _, rfl, tp, _, rfl, SqT.of (pq sbG h0), rfl, rfl, rfl, fun r hr' => ?_⟩
      have sr := same_upd (o := .tup (turnV [V.ref p1, .ref p2, .ref p3])) hr'
      have sbR := sbG.trans (Same.but sr)
      exact q r d w b v a u m2 _ T.back ⟨p3, p2, p1, upd_same, pq sbR h3, pq sbR h2, pq sbR h1⟩ (by omega) (by omega) ((pen5.same sG).same sr) sbR
    · refine iteD0 z ⟨rfl, sG, ?_, ?_, ?_⟩
      · have := hle (S 1 0 + S 2 0) (by simp)
        omega
      · have := hle (S 1 1 + S 2 1) (by simp)
        omega
      · have := hle (S 1 2 + S 2 2) (by simp)
        omega
  obtain ⟨rfl, s6, l0, l1, l2⟩ := hh
  obtain ⟨T4, _⟩ := mag_tri magS l0 l1 l2
  have pen6 := pen5.same s6
  have sb6 := sb5.trans (Same.but s6)
  have hfo6 := s6 _ _ hfo
  have hQ6 := hQ.same s6
  clear l0 l1 l2 hQ magS hgo
  generalize S 1 0 + S 2 0 = x1 at *
  generalize S 2 0 - S 1 0 = x2 at *
  generalize S 1 1 + S 2 1 = x3 at *
  generalize S 2 1 - S 1 1 = x4 at *
  generalize S 1 2 + S 2 2 = x5 at *
  generalize S 2 2 - S 1 2 = x6 at *
  refine ⟨fun σ G7 => ∃ (at' m3 : Int), σ = [some (.ref p), some (.ref tp), some (.int kd), some (.ref sq), some (.ref D), none, none, some (.ref go), some (.ref fo), none, none, none, some (.int at'), none, none] ∧ 0 ≤ at' ∧ at' < 3 ∧ PenAt G7 p c ms m3 ∧ m2 ≤ m3 ∧ m3 ≤ m2 + 1 ∧ SameBut p G6 G7, ⟨_, rfl, p, c, ms, m2, 3, rfl, pen6, by omega, by omega, by decide, by decide, fun k n' H' c0 c1 w0 w1 pen' s' => ⟨k, n', rfl, c0, c1, pen', w0, w1, s'⟩⟩, fun σ G7 hh => ?_⟩
  obtain ⟨at', m3, rfl, a0, a1, pen7, w2, w3, sb7⟩ := hh
  have k67 : ∀ {x : Addr} {zs : List V}, G6 x = some (.tup zs) → G7 x = some (.tup zs) := fun {x zs} ex => sb7 _ _ (fun z => by
    obtain ⟨l, hl, _⟩ := pen6
    rw [z, hl] at ex
    cases ex) ex
  have sb07 := sb6.trans sb7
  have hfo7 := k67 hfo6
  have hQ7 : Prs3 G7 q1 q2 q3 x1 x2 x3 x4 x5 x6 := ⟨k67 hQ6.1, k67 hQ6.2.1, k67 hQ6.2.2⟩
  obtain ⟨r1, r2, r3, A', U', B', V', C', W', i1, i2, i3, TR, hR⟩ : ∃ (r1 r2 r3 : Addr) (A' U' B' V' C' W' : Int), atI [V.ref q1, .ref q2, .ref q3] at' = some (.ref r1) ∧ atI [V.ref q1, .ref q2, .ref q3] ((at' + 1) % 3) = some (.ref r2) ∧ atI [V.ref q1, .ref q2, .ref q3] ((at' + 2) % 3) = some (.ref r3) ∧ Tri A' U' B' V' C' W' ∧ Prs3 G7 r1 r2 r3 A' U' B' V' C' W' := by
    have : at' = 0 ∨ at' = 1 ∨ at' = 2 := by omega
    rcases this with rfl | rfl | rfl
    · exact ⟨q1, q2, q3, _, _, _, _, _, _, rfl, rfl, rfl, T4, hQ7⟩
    · exact ⟨q2, q3, q1, _, _, _, _, _, _, rfl, rfl, rfl, T4.turn', ⟨hQ7.2.1, hQ7.2.2, hQ7.1⟩⟩
    · exact ⟨q3, q1, q2, _, _, _, _, _, _, rfl, rfl, rfl, T4.turn'.turn', ⟨hQ7.2.2, hQ7.1, hQ7.2.1⟩⟩
  refine ⟨fun σ G8 => σ = [some (.ref p), some (.ref tp), some (.int kd), some (.ref sq), some (.ref D), none, none, some (.ref go), some (.ref fo), none, none, none, some (.int at'), some (.ref r1), some (.ref r2)] ∧ G8 = G7, ?_, fun σ G8 hh => ?_⟩
  · refine ⟨_, rfl, _, rfl, fo, _, _, _, rfl, rfl, SqT.of hfo7, i1, ?_⟩
    refine ⟨_, rfl, _, rfl, at', 1, rfl, rfl, at' + 1, 3, rfl, rfl, (by decide : (0 : Int) < 3), fo, _, _, _, rfl, rfl, SqT.of hfo7, i2, ?_⟩
    exact ⟨_, _, rfl, rfl, rfl⟩
  obtain ⟨rfl, rfl⟩ := hh
  have found : Q (.ref fo) G8 := q fo _ _ _ _ _ _ m3 _ T4 ⟨q1, q2, q3, hfo7, hQ7.1, hQ7.2.1, hQ7.2.2⟩ (by omega) (by omega) pen7 sb07
  refine ⟨fun σ G9 => σ = [some (.ref p), some (.ref tp), some (.int kd), some (.ref sq), some (.ref D), none, none, some (.ref go), some (.ref fo), none, none, none, some (.int at'), some (.ref r1), some (.ref r2)] ∧ G9 = G8 ∧ U' ≠ A' ∧ V' ≠ 0 - B', ?_, fun σ G9 hh => ?_⟩
  · refine ⟨_, rfl, rfl, _, rfl, ?_⟩
    by_cases k1 : V.int kd = V.int 1
    rotate_left
    · exact iteNT k1 (iteT ⟨_, rfl, found⟩)
    refine iteNS k1 ?_
    refine ⟨_, rfl, r1, _, 1, _, rfl, rfl, SqT.of hR.1, rfl, _, rfl, r1, _, 0, _, rfl, rfl, SqT.of hR.1, rfl, rfl, _, rfl, ?_⟩
    by_cases k2 : V.int U' = V.int A'
    · exact iteD1 k2 (iteT ⟨_, rfl, found⟩)
    refine iteD0 k2 ?_
    refine ⟨_, rfl, r2, _, 1, _, rfl, rfl, SqT.of hR.2.1, rfl, _, rfl, r2, _, 0, _, rfl, rfl, SqT.of hR.2.1, rfl, _, _, rfl, rfl, rfl, _, rfl, ?_⟩
    by_cases k3 : V.int V' = V.int (0 - B')
    · exact iteD1 k3 ⟨_, rfl, found⟩
    · exact iteD0 k3 ⟨rfl, rfl, fun e => k2 (congrArg V.int e), fun e => k3 (congrArg V.int e)⟩
  obtain ⟨rfl, rfl, nU, nV⟩ := hh
  refine ⟨_, rfl, r1, _, 0, _, rfl, rfl, SqT.of hR.1, rfl, _, rfl, r1, _, 1, _, rfl, rfl, SqT.of hR.1, rfl, _, _, rfl, rfl, by show 2 ≤ sizeLine; decide, fun t1 ht1 => ?_⟩
  have z1 := same_upd (o := .tup [.int A', .int (U' + 2)]) ht1
  refine ⟨_, rfl, r2, _, 0, _, rfl, rfl, SqT.of (z1 _ _ hR.2.1), rfl, _, rfl, r2, _, 1, _, rfl, rfl, SqT.of (z1 _ _ hR.2.1), rfl, _, _, rfl, rfl, by show 2 ≤ sizeLine; decide, fun t2 ht2 => ?_⟩
  have z2 := same_upd (o := .tup [.int B', .int (V' - 2)]) ht2
  have z12 := z1.trans z2
  refine ⟨_, rfl, _, rfl, at', 2, rfl, rfl, at' + 2, 3, rfl, rfl, (by decide : (0 : Int) < 3), fo, _, _, _, rfl, rfl, SqT.of (z12 _ _ hfo7), i3, ?_⟩
  refine ⟨by show 3 ≤ sizeLine; decide, fun t ht => ?_⟩
  have zt := same_upd (o := .tup [.ref t1, .ref t2, .ref r3]) ht
  have zA := z12.trans zt
  exact q t _ _ _ _ _ _ m3 _ (TR.moved nU nV) ⟨t1, t2, r3, upd_same, zt _ _ (z2 _ _ upd_same), zt _ _ upd_same, zA _ _ hR.2.2⟩ (by omega) (by omega) (pen7.same zA) (sb07.trans (Same.but zA))
end
end TC
namespace TCX
open PySem PySem.Spec PyProof.Rows L2
/-- a promise kept as it is said: the unifier does not open it -/
structure Box (sp : Sp) (vs : List V) (H : Hp) (Q : VK) (E : XK) : Prop where
  out : sp vs H Q E
theorem boxed {P : Program} {w : World} {K : PySem.W.Frag} {mg : Str → Option Value} {base : Heap} {CX : CXT} {k : Nat} {f : Addr} {fd : FuncData} {ps : List Str} {sp : Sp} (F : FnOk P w K mg base CX k f fd ps sp) : FnOk P w K mg base CX k f fd ps (Box sp) :=
  ⟨fun vs H Q E h => F.len vs H Q E h.out, fun A outer s H args us vs Q E hr he hb hv hs => F.run A outer s H args us vs Q E hr he hb hv hs.out⟩
end TCX
namespace TB
set_option exponentiation.threshold 2000
open TC PySem PySem.Spec PyProof.Rows L2 TCA TCX
/-! ### K18L: law -/
abbrev qLaw : Str := (envOfC "law" (defScope sLaw) 0 0 .none).qual ++ "<lambda>"
abbrev tLaw (K : PySem.W.Frag) : List (Addr × Str) := [((He.cT K ("law", none)).2, qLaw)]
abbrev nLaw : List Str := ["_law_script", "_law_pen_here", "_law_turn", "_law_pairs_here", "_law_other_here", "_law_one", "_law_two", "_law_square_here", "_law_goal", "_law_told", "_law_form", "_law_mark", "_law_bad", "_law_word_here", "_law_worse", "_law_later", "_law_rows", "_law_due"]
theorem scLaw : FnScope nLaw ["_law_script"] (defScope sLaw) := ⟨rfl, rfl, rfl, by decide +kernel, rfl, by decide +kernel, by decide +kernel⟩
def spLaw (K : PySem.W.Frag) : Sp := fun vs H Q _ => ∃ (a : Addr) (ns : List Int), vs = [.ref a] ∧ SqL K H a (ns.map V.int) ∧ ns.length ≤ 63 ∧ H (He.cT K ("law", none)).2 = some (.tbl #[]) ∧ ∀ H', Q (.bl true) H'
theorem FnOk.told {P : Program} {w : World} {K : PySem.W.Frag} {mg : Str → Option Value} {base : Heap} {k : Nat} {f : Addr} {fd : FuncData} {ps : List Str} {sp : Sp} (F : FnOk P w K mg base (L2.CX P w) k f fd ps sp) : FnOk P w K mg base CX0 k f fd ps (fun vs H Q _ => sp vs H Q fun _ _ _ => False) := by
  refine ⟨fun vs H Q E q => F.len vs H Q _ q, fun A outer s H args us vs Q E hr he hb hv hs => codeAny_mono (F.run A outer s H args us vs Q _ hr he hb hv hs) fun r s' h => ?_⟩
  cases r with
  | error e =>
    obtain ⟨_, _, _, _, _, _, _, _, _, _, _, _, z⟩ := h
    exact z.elim
  | ok fl =>
    cases fl with
    | ret u => exact h
    | next => exact h.elim
    | brk => exact h.elim
    | cont => exact h.elim
theorem fnG_of {CX : CXT} {P : Program} {w : World} {K : PySem.W.Frag} {mg : Str → Option Value} {base : Heap} {k : Nat} {f : Addr} {name qual : Str} {params : Arguments} {body : List Stmt} {scope : Scope} {dV kV doc pm cdv ct oc : Value} {an od : Option Addr}
    {osl : Array (Option Value)} {N ps : List Str} {sp : Sp} (lk : K.lookup f = some ⟨oc, od, .func (PySem.W.fnOf name qual params body scope dV kV doc pm an cdv ct), osl⟩) (hcd : PySem.W.codeIn K cdv qual = true) (S : FnScope N ps scope)
    (len : ∀ vs H Q E, sp vs H Q E → vs.length = ps.length)
    (hbody : ∀ (A : Around) (outer : List Env) (s : Shared) (H : Hp) (vs : List V) (Q : VK) (E : XK), A.guards = some [] → Room k (A.deeper (envOfC qual scope s.heap.objs.size f cdv)) → sp vs H Q E →
      ∃ t, PSs (cxOf CX P w K mg base N qual scope f cdv A outer s H E) body t ∧ t { nx := fun _ H' => Q .non H', rt := Q } (L2.start N vs) H) :
    FnG P w K mg base CX (k + 1) f (PySem.W.fnOf name qual params body scope dV kV doc pm an cdv ct) ps sp :=
  ⟨len, fun A outer s H args us vs Q E hg hr e0 hb r hsp => LamX.run_ofS lk hcd S hr e0 hb r (len _ _ _ _ hsp) fun hr' => hbody A outer s H vs Q E hg hr' hsp⟩
def dRefW (w : Str) : PyData := .tuple [.str "refused", .str w]
theorem dRefW_ok {w : Str} (h : w = "size" ∨ w = "triple" ∨ w = "offset") : SeqAt.shaped (dRefW w) = true ∧ PyData.eqv (dRefW w) (dRefW w) = true := by
  rcases h with rfl | rfl | rfl <;> exact ⟨by decide +kernel, by decide +kernel⟩
theorem dp_refW {K : PySem.W.Frag} {H : Hp} {a : Addr} {w : Str} (h : H a = some (.tup [.str "refused", .str w])) : Dp K H (.ref a) (dRefW w) := .tup (SqT.of h) (.cons (.str _) (.cons (.str _) .nil))
theorem three_keep {K : PySem.W.Frag} {H H' : Hp} {t : Addr} {x y z : Int × Int} (h : ThreeAt H t x y z) (s : Keep K H H') : ThreeAt H' t x y z := by
  obtain ⟨p1, p2, p3, h0, h1, h2, h3⟩ := h
  exact ⟨p1, p2, p3, s.tp h0, s.tp h1, s.tp h2, s.tp h3⟩
theorem GoodT.keep {K : PySem.W.Frag} {H H' : Hp} {x : V} {a u b v c w : Int} (h : GoodT H x a u b v c w) (s : Keep K H H') : GoodT H' x a u b v c w := by
  obtain ⟨t, e, h, T⟩ := h
  exact ⟨t, e, three_keep h s, T⟩
/-- what is told that they are unlike, as data -/
def unlikeD (X Y : List Int) : PyData := .tuple [.str "unlike", sqD X, sqD Y]
theorem unlike_shows {X Y : List Int} (hX : X.length = 9) (hY : Y.length = 9) (b : ∀ x ∈ X, x.natAbs < 10000) (c : ∀ x ∈ Y, x.natAbs < 10000) : (unlikeD X Y).showable = true ∧ (unlikeD X Y).hasDict = false ∧ (unlikeD X Y).depth ≤ 60 ∧ (unlikeD X Y).shown.length ≤ sizeLine := by
  match X, hX, Y, hY with
  | [x0, x1, x2, x3, x4, x5, x6, x7, x8], _, [y0, y1, y2, y3, y4, y5, y6, y7, y8], _ =>
    have b0 := b x0 (by simp)
    have b1 := b x1 (by simp)
    have b2 := b x2 (by simp)
    have b3 := b x3 (by simp)
    have b4 := b x4 (by simp)
    have b5 := b x5 (by simp)
    have b6 := b x6 (by simp)
    have b7 := b x7 (by simp)
    have b8 := b x8 (by simp)
    have c0 := c y0 (by simp)
    have c1 := c y1 (by simp)
    have c2 := c y2 (by simp)
    have c3 := c y3 (by simp)
    have c4 := c y4 (by simp)
    have c5 := c y5 (by simp)
    have c6 := c y6 (by simp)
    have c7 := c y7 (by simp)
    have c8 := c y8 (by simp)
    have ul : (PyData.shown (.str "unlike")).length ≤ 8 := by decide +kernel
    have sl : (unlikeD [x0, x1, x2, x3, x4, x5, x6, x7, x8] [y0, y1, y2, y3, y4, y5, y6, y7, y8]).leavesShort 8 = true := by
      simp only [unlikeD, sqD, row3, PyData.leavesShort, PyData.leavesShortAll, Bool.and_true, Bool.and_eq_true, decide_eq_true_eq]
      exact ⟨by decide +kernel, ⟨⟨shown8 b0, shown8 b1, shown8 b2⟩, ⟨shown8 b3, shown8 b4, shown8 b5⟩, shown8 b6, shown8 b7, shown8 b8⟩, ⟨shown8 c0, shown8 c1, shown8 c2⟩, ⟨shown8 c3, shown8 c4, shown8 c5⟩, shown8 c6, shown8 c7, shown8 c8⟩
    have wl : (unlikeD [x0, x1, x2, x3, x4, x5, x6, x7, x8] [y0, y1, y2, y3, y4, y5, y6, y7, y8]).weight ≤ 1000 := by
      have w0 := w14 b0
      have w1 := w14 b1
      have w2 := w14 b2
      have w3 := w14 b3
      have w4 := w14 b4
      have w5 := w14 b5
      have w6 := w14 b6
      have w7 := w14 b7
      have w8 := w14 b8
      have z0 := w14 c0
      have z1 := w14 c1
      have z2 := w14 c2
      have z3 := w14 c3
      have z4 := w14 c4
      have z5 := w14 c5
      have z6 := w14 c6
      have z7 := w14 c7
      have z8 := w14 c8
      have wu : PyData.weight (.str "unlike") ≤ 50 := by decide +kernel
      simp only [unlikeD, sqD, row3, PyData.weight, PyData.weightAll] at w0 w1 w2 w3 w4 w5 w6 w7 w8 z0 z1 z2 z3 z4 z5 z6 z7 z8 wu ⊢
      omega
    refine ⟨?_, rfl, by show (3 : Nat) ≤ 60; decide, ?_⟩
    · have us : PyData.showable (.str "unlike") = true := by decide +kernel
      simp only [unlikeD, sqD, row3, PyData.showable, PyData.showableAll, Bool.and_true, Bool.and_eq_true, decide_eq_true_eq] at us ⊢
      exact ⟨us, ⟨⟨log14 b0, log14 b1, log14 b2⟩, ⟨log14 b3, log14 b4, log14 b5⟩, log14 b6, log14 b7, log14 b8⟩, ⟨log14 c0, log14 c1, log14 c2⟩, ⟨log14 c3, log14 c4, log14 c5⟩, log14 c6, log14 c7, log14 c8⟩
    · have z := PyData.shown_le 8 (by decide) (unlikeD [x0, x1, x2, x3, x4, x5, x6, x7, x8] [y0, y1, y2, y3, y4, y5, y6, y7, y8]) sl
      rw [sizeLine_eq]
      omega
theorem dpAll_frm {K : PySem.W.Frag} {H : Hp} : ∀ {bs : List Addr} {P : List Frm}, bs.length = P.length → (∀ (j : Nat) b y, bs[j]? = some b → P[j]? = some y → ∃ S, SqA H b S ∧ nine S = y.1) → DpAll K H (bs.map V.ref) (P.map fun y => sqD y.1)
  | [], [], _, _ => .nil
  | b :: bs, y :: P, hl, h => by
    obtain ⟨S, h1, h2⟩ := h 0 b y rfl rfl
    refine .cons ?_ (dpAll_frm (by simpa using hl) fun j b' y' e1 e2 => h (j + 1) b' y' e1 e2)
    show Dp K H (.ref b) (sqD y.1)
    rw [← h2]
    exact h1.dp
theorem sqs_shaped {P : List Frm} (h : ∀ y ∈ P, y.1.length = 9) : SeqAt.shaped (.list (P.map fun y => sqD y.1)) = true := by
  have h1 : ∀ L : List Frm, (∀ y ∈ L, y.1.length = 9) → PyData.canLayAll0 (L.map fun y => sqD y.1) = true ∧ PyData.depthAll (L.map fun y => sqD y.1) ≤ 2 := fun L => by
    induction L with
    | nil => exact fun _ => ⟨rfl, Nat.zero_le _⟩
    | cons x L ih =>
      intro hL
      obtain ⟨i1, i2⟩ := ih fun y hy => hL y (List.mem_cons_of_mem _ hy)
      have hx := hL x (by simp)
      constructor
      · show (PyData.canLay0 (sqD x.1) && PyData.canLayAll0 (L.map fun y => sqD y.1)) = true
        rw [i1, SeqAt.canLay_of_shaped (sq_shaped hx)]
        rfl
      · show max (sqD x.1).depth (PyData.depthAll (L.map fun y => sqD y.1)) ≤ 2
        rw [sq_depth hx]
        omega
  obtain ⟨a, b⟩ := h1 P h
  show (PyData.canLayAll0 (P.map fun y => sqD y.1) && decide (PyData.depthAll (P.map fun y => sqD y.1) + 1 ≤ 64)) = true
  rw [a, decide_eq_true (by omega)]
  rfl
theorem forms_shaped (g : Nat → Int) : SeqAt.shaped (.list ((frmsL g).map fun y => sqD y.1)) = true := sqs_shaped fun y hy => (frms_len g y hy).1
/-- a square is among the forms just where some way leads to it -/
theorem any_forms (g : Nat → Int) {Y : List Int} (hY : Y.length = 9) : (((frmsL g).map fun y => sqD y.1).any fun z => PyData.eqv z (sqD Y)) = true ↔ ∃ ss ∈ waysL, nine (behind ss (sqF g)) = Y := by
  have pm := frms_perm g (List.Perm.refl waysL)
  rw [List.any_eq_true]
  constructor
  · rintro ⟨z, hz, e⟩
    obtain ⟨y, hy, rfl⟩ := List.mem_map.mp hz
    obtain ⟨ss, hs, rfl⟩ := List.mem_map.mp (pm.mem_iff.mpr hy)
    rw [sq_eqv (frms_len g _ hy).1 hY] at e
    exact ⟨ss, hs, of_decide_eq_true e⟩
  · rintro ⟨ss, hs, e⟩
    have hy := pm.mem_iff.mp (List.mem_map.mpr ⟨ss, hs, rfl⟩)
    refine ⟨_, List.mem_map.mpr ⟨_, hy, rfl⟩, ?_⟩
    rw [sq_eqv (frms_len g _ hy).1 hY]
    exact decide_eq_true e
/-- what alike_threes refuses, with the class due -/
def RefP (K : PySem.W.Frag) (CT CS CO : Addr) (H : Hp) (x y : V) (C : Addr) : Prop := BadT K CT CS CO H x C ∨ ∃ a u b v c w, GoodT H x a u b v c w ∧ BadT K CT CS CO H y C
theorem RefP.keep {K : PySem.W.Frag} {CT CS CO : Addr} {H H' : Hp} {x y : V} {C : Addr} (h : RefP K CT CS CO H x y C) (s : Keep K H H') : RefP K CT CS CO H' x y C := by
  rcases h with h | ⟨a, u, b, v, c, w, h1, h2⟩
  · exact .inl (h.keep s)
  · exact .inr ⟨a, u, b, v, c, w, GoodT.keep h1 s, h2.keep s⟩
theorem lst_small {g : Nat → Int} {J : Int} (h : Mag (sqF g) J) (J60 : J ≤ 60) {S : Nat → Nat → Int} {m : Int} (h1 : Lst (frmsL g) (nine S) m) : ∀ x ∈ nine S, x.natAbs < 10000 := by
  obtain ⟨y, hy, ey⟩ := h1.mem
  obtain ⟨S2, e3, mg⟩ := h.form hy
  rw [← ey, ← e3]
  exact mag_nine mg J60
theorem RefP.sp {K : PySem.W.Frag} {CT CS CO : Addr} {H : Hp} {x y : V} {C : Addr} {Q : VK} {E : XK} (h : RefP K CT CS CO H x y C) (f : ∀ H', Same H H' → E (.ref C) none H') : spAlike K CT CS CO [x, y] H Q E := by
  rcases h with h | ⟨a, u, b, v, c, w, h1, h2⟩
  · exact ⟨x, y, rfl, .inr (.inl ⟨C, h, f⟩)⟩
  · exact ⟨x, y, rfl, .inr (.inr ⟨a, u, b, v, c, w, C, h1, h2, f⟩)⟩
structure LTxt (P : Program) (w : World) (K : PySem.W.Frag) (mg : Str → Option Value) (base : Heap) (CT CS CO fPn fD fTr fSq fFo fLe fOt fSR fWr fA3 fS fW : Addr) (fdPn fdD fdTr fdSq fdFo fdLe fdOt fdSR fdWr fdA3 fdS fdW : FuncData) : Prop where
  GPn : FnOk P w K mg base CX0 1 fPn fdPn ["_law_script"] (spPen K)
  bPn : L2.Binds K fdPn ["_law_script"] []
  kPn : PySem.W.keepIn K (.ref fPn) = true
  gPn : mg "_law_pen" = some (.ref fPn)
  GD : FnOk P w K mg base CX0 1 fD fdD ["_law_pen_here", "_law_many"] spDraw
  bD : L2.Binds K fdD ["_law_pen_here", "_law_many"] []
  kD : PySem.W.keepIn K (.ref fD) = true
  gD : mg "_law_draw" = some (.ref fD)
  GTr : FnOk P w K mg base CX0 4 fTr fdTr ["_law_pen_here", "_law_high"] spTriple17
  bTr : L2.Binds K fdTr ["_law_pen_here", "_law_high"] []
  kTr : PySem.W.keepIn K (.ref fTr) = true
  gTr : mg "_law_triple" = some (.ref fTr)
  GSq : FnOk P w K mg base CX0 1 fSq fdSq ["_law_pairs_here"] spSquareL
  bSq : L2.Binds K fdSq ["_law_pairs_here"] []
  kSq : PySem.W.keepIn K (.ref fSq) = true
  gSq : mg "_law_square" = some (.ref fSq)
  GFo : FnOk P w K mg base CX0 2 fFo fdFo ["_law_square_here"] spFormsL
  bFo : L2.Binds K fdFo ["_law_square_here"] []
  kFo : PySem.W.keepIn K (.ref fFo) = true
  gFo : mg "_law_forms" = some (.ref fFo)
  GLe : FnOk P w K mg base CX0 3 fLe fdLe ["_law_square_here"] (spLeastL K)
  bLe : L2.Binds K fdLe ["_law_square_here"] []
  kLe : PySem.W.keepIn K (.ref fLe) = true
  gLe : mg "_law_least" = some (.ref fLe)
  GOt : FnOk P w K mg base CX0 5 fOt fdOt ["_law_pen_here", "_law_pairs_here"] spOtherL
  bOt : L2.Binds K fdOt ["_law_pen_here", "_law_pairs_here"] []
  kOt : PySem.W.keepIn K (.ref fOt) = true
  gOt : mg "_law_other" = some (.ref fOt)
  GSR : FnG P w K mg base CX0 3 fSR fdSR ["_law_square_here", "_law_goal", "_law_told"] spStepsR
  bSR : L2.Binds K fdSR ["_law_square_here", "_law_goal", "_law_told"] []
  kSR : PySem.W.keepIn K (.ref fSR) = true
  gSR : mg "_law_steps_right" = some (.ref fSR)
  GWr : FnOk P w K mg base CX0 3 fWr fdWr ["_law_pen_here", "_law_pairs_here"] (spWrong K CT CS CO)
  bWr : L2.Binds K fdWr ["_law_pen_here", "_law_pairs_here"] []
  kWr : PySem.W.keepIn K (.ref fWr) = true
  gWr : mg "_law_wrong" = some (.ref fWr)
  GA3 : FnOk P w K mg base (L2.CX P w) 7 fA3 fdA3 ["triple", "other"] (spAlike K CT CS CO)
  bA3 : L2.Binds K fdA3 ["triple", "other"] []
  kA3 : PySem.W.keepIn K (.ref fA3) = true
  gA3 : mg "alike_threes" = some (.ref fA3)
  GW : FnOk P w K mg base CX0 1 fW fdW ["_law_e"] (spWord K)
  bW : L2.Binds K fdW ["_law_e"] []
  kW : PySem.W.keepIn K (.ref fW) = true
  gW : mg "_law_word" = some (.ref fW)
  FS : FnP K "_law_said" sSaid fS fdS
  bS : L2.Binds K fdS ["_law_call"] []
  gS : mg "_law_said" = some (.ref fS)
  ST : STxt K mg
  kdS : Kind K CS 9
  hxS : PySem.W.exmAny K (.ref CS) [.ref (He.ga K "TurnError")] = some true
  kdT : Kind K CT 15
  hxT : PySem.W.exmAny K (.ref CT) [.ref (He.ga K "TurnError")] = some true
  kdO : Kind K CO 6
  hxO : PySem.W.exmAny K (.ref CO) [.ref (He.ga K "TurnError")] = some true
  grange : mg "range" = none
  gisinstance : mg "isinstance" = none
  gtuple : mg "tuple" = none
  glen : mg "len" = none
  grepr : mg "repr" = none
section
variable {P : Program} {w : World} {K : PySem.W.Frag} {mg : Str → Option Value} {base : Heap} {CT CS CO fPn fD fTr fSq fFo fLe fOt fSR fWr fA3 fS fW : Addr} {fd fdPn fdD fdTr fdSq fdFo fdLe fdOt fdSR fdWr fdA3 fdS fdW : FuncData}
set_option maxHeartbeats 0 in
theorem ok_law (F : FnP K "law" sLaw (He.fAd K ("law", none)) fd) (T : LTxt P w K mg base CT CS CO fPn fD fTr fSq fFo fLe fOt fSR fWr fA3 fS fW fdPn fdD fdTr fdSq fdFo fdLe fdOt fdSR fdWr fdA3 fdS fdW) (Tb : LamX.TabB base mg (He.cT K ("law", none)).1 (He.cT K ("law", none)).2) : FnG P w K mg base CX0 10 (He.fAd K ("law", none)) fd ["_law_script"] (spLaw K) := by
  obtain ⟨oc, od, dV, kV, doc, pm, an, cdv, ct, osl, rfl, lk, hcd, _, _⟩ := F.ex
  obtain ⟨cc, rfl⟩ := He.codeIn_ref hcd
  have ecc : He.codeOf K ("law", none) = cc := He.codeOf_eq lk rfl
  obtain ⟨oc2, od2, dV2, kV2, doc2, pm2, an2, cdv2, ct2, osl2, e2, lk2, hcd2, _, _⟩ := T.FS.ex
  have bS := T.bS
  rw [e2] at bS lk2
  refine fnG_of lk hcd scLaw (fun vs H Q E h => ?_) (fun A outer s H vs Q E hG hr h => ?_)
  · obtain ⟨a, ns, rfl, _⟩ := h
    rfl
  obtain ⟨a0, ns, rfl, hS, hn, hTb, q⟩ := h
  have hu := (hr.mono (show 1 ≤ 9 by decide)).units
  have hu65 : (A.deeper (envOfC "law" (defScope sLaw) s.heap.objs.size (He.fAd K ("law", none)) (.ref cc))).units + 65 < cLine := by have := hr.un; omega
  have hr1 := hr.mono (show 1 ≤ 9 by decide)
  have hr2 := hr.mono (show 2 ≤ 9 by decide)
  have hr3 := hr.mono (show 3 ≤ 9 by decide)
  have hr4 := hr.mono (show 4 ≤ 9 by decide)
  have hr5 := hr.mono (show 5 ≤ 9 by decide)
  have hr7 := hr.mono (show 7 ≤ 9 by decide)
  have GA3 := boxed T.GA3
  refine ⟨_, PSs.nox (pss_cons (ps_set (i := 1) scLaw.nd rfl (.inl rfl) (pe_call T.GPn hr1 (by rfl) T.gPn T.kPn T.bPn .nil pass0 (pa_cons (pv 0) pa_nil)))
      (pss_cons (ps_for PassesOwn.never rfl (pi_range1 (by rfl) T.grange (pa_cons pe_int pa_nil)) (pg_name (i := 2) scLaw.nd rfl (.inl rfl))
        (C8.pss_cut (ps_set (i := 3) scLaw.nd rfl (.inl rfl) (pe_call T.GTr hr4 (by rfl) T.gTr T.kTr T.bTr .nil pass0 (pa_cons (pv 1) (pa_cons (pe_ix ix_list (pe_lst (pa_cons pe_int (pa_cons pe_int (pa_cons pe_int pa_nil)))) (pe_call T.GD hr1 (by rfl) T.gD T.kD T.bD .nil pass0 (pa_cons (pv 1) (pa_cons pe_int pa_nil))) (fun _ _ => rfl)) pa_nil))))
      (C8.pss_cut (ps_set (i := 4) scLaw.nd rfl (.inl rfl) (pe_call T.GOt hr5 (by rfl) T.gOt T.kOt T.bOt .nil pass0 (pa_cons (pv 1) (pa_cons (pv 3) pa_nil))))
      (C8.pss_cut (ps_for PassesOwn.never rfl (pi_tup (pe_tup (pa_cons (pe_tup (pa_cons (pv 3) (pa_cons (pv 4) pa_nil))) (pa_cons (pe_tup (pa_cons (pv 4) (pa_cons (pv 3) pa_nil))) pa_nil)))) (pg_tup rfl (pgs_cons (pg_name (i := 5) scLaw.nd rfl (.inr rfl)) (pgs_cons (pg_name (i := 6) scLaw.nd rfl (.inr rfl)) pgs_nil)))
        (C8.pss_cut (ps_par (i := 7) (j := 8) (by rfl) scLaw.nd rfl rfl (by decide) rfl rfl (pa_cons (pe_call T.GSq hr1 (by rfl) T.gSq T.kSq T.bSq .nil pass0 (pa_cons (pv 5) pa_nil)) (pa_cons (pe_call T.GSq hr1 (by rfl) T.gSq T.kSq T.bSq .nil pass0 (pa_cons (pv 6) pa_nil)) pa_nil)) (by rfl))
      (C8.pss_cut (ps_set (i := 9) scLaw.nd rfl (.inl rfl) (pe_call (FnOk.told T.GA3) hr7 (by rfl) T.gA3 T.kA3 T.bA3 .nil pass0 (pa_cons (pv 5) (pa_cons (pv 6) pa_nil))))
      (C8.pss_cut (ps_if (PW.pt (pw_or (pt_not (pt_val (pe_callB call_isi (by rfl) T.gisinstance (by decide +kernel) (pa_cons (pv 9) (pa_cons (pe_bltn (v := .ty "tuple") (by rfl) T.gtuple (by decide +kernel) rfl) pa_nil))))) (pw_or1 (pt_cmpR op_lt (pe_callB call_len_seq (by rfl) T.glen PySem.boot_len (pa_cons (pv 9) pa_nil)) pe_int (nomark _))))) (pss_one (ps_ret pe_bl)) pss_nil)
      (pss_one (ps_if (pt_cmpR (op_inD hu65) (pv 8) (pe_lc (own := [("_law_form", 10), ("_law_mark", 11)]) (g := gTup K 2 (gCons (gName 10) (gCons (gName 11) gNil))) (tt := tYes) (te := (tVar 10)) (by rfl) scLaw.nd (pi_list (pe_call T.GFo hr2 (by rfl) T.gFo T.kFo T.bFo .nil pass0 (pa_cons (pv 7) pa_nil)))
          (blkOk_by (N := nLaw) (sc := defScope sLaw) (by decide +kernel)) (fun _ _ _ _ _ => pg_tup rfl (pgs_cons (pg_name (i := 10) scLaw.nd rfl (.inl rfl)) (pgs_cons (pg_name (i := 11) scLaw.nd rfl (.inl rfl)) pgs_nil))) (fun _ _ _ _ _ => pts_nil) (fun _ _ _ _ _ => (pv 10))) (by rfl)) (pss_one (ps_if (PW.pt (pw_or (pt_cmpR op_ne (pe_ix ix_tup (pv 9) pe_int (fun _ _ => rfl)) pe_str (nomark _)) (pw_or1 (pt_not (pt_val (pe_callG T.GSR hG hr3 (by rfl) T.gSR T.kSR T.bSR .nil pass0 (pa_cons (pv 7) (pa_cons (pv 8) (pa_cons (pv 9) pa_nil))))))))) (pss_one (ps_ret pe_bl)) pss_nil)) (pss_one (ps_if (pt_cmpR op_ne (pe_callB (call_reprD hG hu) (by rfl) T.grepr (by decide +kernel) (pa_cons (pv 9) pa_nil)) (pe_callB (call_reprD hG hu) (by rfl) T.grepr (by decide +kernel) (pa_cons (pe_tup (pa_cons pe_str (pa_cons (pe_ix ix_tup (pe_call T.GLe hr3 (by rfl) T.gLe T.kLe T.bLe .nil pass0 (pa_cons (pv 7) pa_nil)) pe_int (fun _ _ => rfl)) (pa_cons (pe_ix ix_tup (pe_call T.GLe hr3 (by rfl) T.gLe T.kLe T.bLe .nil pass0 (pa_cons (pv 8) pa_nil)) pe_int (fun _ _ => rfl)) pa_nil)))) pa_nil)) (nomark _)) (pss_one (ps_ret pe_bl)) pss_nil))))))))
      (C8.pss_cut (ps_asg (pe_call T.GWr hr3 (by rfl) T.gWr T.kWr T.bWr .nil pass0 (pa_cons (pv 1) (pa_cons (pv 3) pa_nil))) (pg_tup rfl (pgs_cons (pg_name (i := 12) scLaw.nd rfl (.inl rfl)) (pgs_cons (pg_name (i := 13) scLaw.nd rfl (.inl rfl)) pgs_nil))))
      (C8.pss_cut (ps_asg (pe_call T.GWr hr3 (by rfl) T.gWr T.kWr T.bWr .nil pass0 (pa_cons (pv 1) (pa_cons (pv 4) pa_nil))) (pg_tup rfl (pgs_cons (pg_name (i := 14) scLaw.nd rfl (.inl rfl)) (pgs_cons (pg_name (i := 15) scLaw.nd rfl (.inl rfl)) pgs_nil))))
      (C8.pss_cut (ps_set (i := 16) scLaw.nd rfl (.inl rfl) (pe_lst (pa_cons (pe_tup (pa_cons (pv 12) (pa_cons (pv 4) (pa_cons (pv 13) pa_nil)))) (pa_cons (pe_tup (pa_cons (pv 3) (pa_cons (pv 14) (pa_cons (pv 15) pa_nil)))) (pa_cons (pe_tup (pa_cons (pv 12) (pa_cons (pv 14) (pa_cons (pv 13) pa_nil)))) pa_nil)))))
      (pss_one (ps_for PassesOwn.never rfl (pi_list (pv 16)) (pg_tup rfl (pgs_cons (pg_name (i := 5) scLaw.nd rfl (.inr rfl)) (pgs_cons (pg_name (i := 6) scLaw.nd rfl (.inr rfl)) (pgs_cons (pg_name (i := 17) scLaw.nd rfl (.inl rfl)) pgs_nil))))
        (pss_one (ps_if (pt_cmpR (op_neD hu) (LamX.pe_lamcall (T := tLaw K) (k := 7) (TT := TSaid K) (t := fun E => tCall (Box (spAlike K CT CS CO)) [] E (tCons (tVar 5) (tCons (tVar 6) tNil))) (by rfl) T.gS T.FS.kp lk2 hcd2 bS scSaid rfl (.inl rfl) (said_gives T.ST T.GW T.bW T.kW T.gW hr2) Tb (congrArg Value.ref ecc.symm) (List.mem_singleton.mpr rfl) (fun p hp _ => by rw [List.mem_singleton.mp hp]; rfl) hr (LamX.lamS_by (sc := defScope sLaw) (by decide +kernel)) rfl (fun _ _ _ _ _ => rfl)
          (fun A outer s H E f c' hrl => pe_call GA3 hrl (by rfl) T.gA3 T.kA3 T.bA3 .nil (passes_call (takes_of rfl rfl rfl rfl) fun _ _ _ _ z => z) (pa_cons (pv 5) (pa_cons (pv 6) pa_nil)))) (pe_tup (pa_cons pe_str (pa_cons (pv 17) pa_nil))) (nomark _)) (pss_one (ps_ret pe_bl)) pss_nil)))))))))))
      (pss_one (ps_ret pe_bl)))), ?_⟩

  have tb0 : LamX.Tabs (tLaw K) H := fun y hy => by
    rw [List.mem_singleton.mp hy]
    exact LamX.TabS.nil hTb
  refine ⟨_, rfl, a0, ns, rfl, hS, hn, fun p c ms H1 sm hp0 hp1 hc1 hpc => ?_⟩
  have pen1 : PenAt H1 p c ms 0 := ⟨0, hp1, hc1, hpc⟩
  have tb1 := tb0.ext sm
  refine ⟨8, rfl, by decide, by decide, for_range (n := 8) (fun i σ G => ∃ (n : Int) (v2 v3 v4 v5 v6 v7 v8 v9 v10 v11 v12 v13 v14 v15 v16 v17 : Option V), σ = [some (.ref a0), some (.ref p), v2, v3, v4, v5, v6, v7, v8, v9, v10, v11, v12, v13, v14, v15, v16, v17] ∧ 0 ≤ n ∧ n ≤ 100 * ((i : Nat) : Int) ∧ PenAt G p c ms n ∧ LamX.Tabs (tLaw K) G)
    ⟨0, none, none, none, none, none, none, none, none, none, none, none, none, none, none, none, none, rfl, by omega, by omega, pen1, tb1⟩ (fun i σ G hi hP => ?_) (fun σ G hP => ?_)⟩
  rotate_left
  · obtain ⟨_, _, _, _, _, _, _, _, _, _, _, _, _, _, _, _, _, rfl, _⟩ := hP
    exact q G
  obtain ⟨n, v2, v3, v4, v5, v6, v7, v8, v9, v10, v11, v12, v13, v14, v15, v16, v17, rfl, n0, n9, pen, tb⟩ := hP
  have i8 : i < 8 := hi
  obtain ⟨bo, eb⟩ : ∃ bo : Int, 0 + ((i : Nat) : Int) = bo := ⟨_, rfl⟩
  rw [eb]
  -- the triple
  refine ⟨fun σ G1 => ∃ (tp : Addr) (a u b v d w n1 : Int), σ = [some (.ref a0), some (.ref p), some (.int bo), some (.ref tp), v4, v5, v6, v7, v8, v9, v10, v11, v12, v13, v14, v15, v16, v17] ∧ Tri a u b v d w ∧ ThreeAt G1 tp (a, u) (b, v) (d, w) ∧ n ≤ n1 ∧ n1 ≤ n + 13 ∧ PenAt G1 p c ms n1 ∧ LamX.Tabs (tLaw K) G1, ?_, fun σ G1 hh => ?_⟩
  · refine ⟨_, rfl, by show 3 ≤ sizeLine; decide, fun l0 hl0 => ?_⟩
    have e0 := same_upd (o := .lst [V.int 4, V.int 9, V.int 30]) hl0
    refine ⟨_, rfl, p, c, ms, n, 3, rfl, pen.same e0, n0, by omega, by decide, by decide, fun e m1 H2 f0 f1 x0 x1 p2 s2 => ?_⟩
    have hL := s2 _ _ (PenAt.ne pen hl0) upd_same
    have tb2 := tabs_but (tb.ext e0) (pen.same e0) s2
    obtain ⟨hh, ehh, h0, h1⟩ : ∃ z : Int, atI [V.int 4, V.int 9, V.int 30] e = some (.int z) ∧ 0 ≤ z ∧ z ≤ 40 := by
      have : e = 0 ∨ e = 1 ∨ e = 2 := by omega
      rcases this with rfl | rfl | rfl
      · exact ⟨4, atI_nat (j := 0) rfl, by decide, by decide⟩
      · exact ⟨9, atI_nat (j := 1) rfl, by decide, by decide⟩
      · exact ⟨30, atI_nat (j := 2) rfl, by decide, by decide⟩
    exact ⟨l0, _, e, _, rfl, rfl, SqL.of hL, ehh, p, c, ms, m1, hh, rfl, p2, by omega, by omega, h0, h1, fun t a u b v d w n' H' T' hT m0 m1' pen' sb' => ⟨t, a, u, b, v, d, w, n', rfl, T', hT, by omega, by omega, pen', tabs_but tb2 p2 sb'⟩⟩
  obtain ⟨tp, a, u, b, v, d, w, n1, rfl, T1, hT1, y0, y1, penA, tbA⟩ := hh
  -- the other
  refine ⟨fun σ G2 => ∃ (tq : Addr) (a' u' b' v' d' w' n2 : Int), σ = [some (.ref a0), some (.ref p), some (.int bo), some (.ref tp), some (.ref tq), v5, v6, v7, v8, v9, v10, v11, v12, v13, v14, v15, v16, v17] ∧ Tri a' u' b' v' d' w' ∧ ThreeAt G2 tp (a, u) (b, v) (d, w) ∧ ThreeAt G2 tq (a', u') (b', v') (d', w') ∧ n ≤ n2 ∧ n2 ≤ n + 33 ∧ PenAt G2 p c ms n2 ∧ LamX.Tabs (tLaw K) G2, ?_, fun σ G2 hh => ?_⟩
  · exact ⟨_, rfl, _, rfl, p, c, tp, ms, n1, a, u, b, v, d, w, rfl, penA, by omega, by omega, T1, hT1, fun t a' u' b' v' d' w' n' H' T' hT' m0 m1 pen' sb' => ⟨t, a', u', b', v', d', w', n', rfl, T', three_keep hT1 (Keep.pen (K := K) penA pen' sb'), hT', by omega, by omega, pen', tabs_but tbA penA sb'⟩⟩
  clear hT1 penA tbA
  obtain ⟨tq, a', u', b', v', d', w', n2, rfl, T2, hT1, hT2, z0, z1, penB, tbB⟩ := hh
  -- both ways about
  refine ⟨fun σ G3 => ∃ (v5 v6 v7 v8 v9 v10 v11 : Option V), σ = [some (.ref a0), some (.ref p), some (.int bo), some (.ref tp), some (.ref tq), v5, v6, v7, v8, v9, v10, v11, v12, v13, v14, v15, v16, v17] ∧ Same G2 G3, ?_, fun σ G3 hh => ?_⟩
  · refine ⟨_, rfl, _, rfl, by show 2 ≤ sizeLine; decide, fun t1 ht1 => ⟨_, rfl, _, rfl, by show 2 ≤ sizeLine; decide, fun t2 ht2 => ⟨by show 2 ≤ sizeLine; decide, fun tt htt => ?_⟩⟩⟩
    have s1 := same_upd (o := .tup [.ref tp, .ref tq]) ht1
    have s2 := same_upd (o := .tup [.ref tq, .ref tp]) ht2
    have s3 := same_upd (o := .tup [.ref t1, .ref t2]) htt
    have S0 := s1.trans (s2.trans s3)
    have k1 := s3 _ _ (s2 _ _ (upd_same (H := G2) (a := t1) (o := .tup [.ref tp, .ref tq])))
    have k2 := s3 _ _ (upd_same (H := upd G2 t1 (.tup [.ref tp, .ref tq])) (a := t2) (o := .tup [.ref tq, .ref tp]))
    have k3 := upd_same (H := upd (upd G2 t1 (.tup [.ref tp, .ref tq])) t2 (.tup [.ref tq, .ref tp])) (a := tt) (o := .tup [.ref t1, .ref t2])
    generalize upd (upd (upd G2 t1 (.tup [.ref tp, .ref tq])) t2 (.tup [.ref tq, .ref tp])) tt (.tup [.ref t1, .ref t2]) = G3 at S0 k1 k2 k3 ⊢
    refine ⟨tt, rfl, ⟨_, SqT.of k3⟩, for_tup (xs := [V.ref t1, V.ref t2]) (fun k σ G => ∃ (v5 v6 v7 v8 v9 v10 v11 : Option V), σ = [some (.ref a0), some (.ref p), some (.int bo), some (.ref tp), some (.ref tq), v5, v6, v7, v8, v9, v10, v11, v12, v13, v14, v15, v16, v17] ∧ Same G3 G)
      ⟨_, _, _, _, _, _, _, rfl, fun _ _ e => e⟩ (fun k σ G _ hP => ?_) (fun k x σ G hx hP => ?_) (fun σ G hP => ?_)⟩
    · obtain ⟨_, _, _, _, _, _, _, _, sG⟩ := hP
      exact SqT.of (sG _ _ k3)
    rotate_left
    · obtain ⟨v5, v6, v7, v8, v9, v10, v11, rfl, sG⟩ := hP
      exact ⟨v5, v6, v7, v8, v9, v10, v11, rfl, S0.trans sG⟩
    obtain ⟨v5, v6, v7, v8, v9, v10, v11, rfl, sG⟩ := hP
    obtain ⟨tx, x1, x2, A, U, B, V', C, W, A', U', B', V'', C', W', rfl, hx, R1, X1, R2, X2⟩ : ∃ (tx x1 x2 : Addr) (A U B V' C W A' U' B' V'' C' W' : Int), x = .ref tx ∧ G tx = some (.tup [.ref x1, .ref x2]) ∧ Tri A U B V' C W ∧ ThreeAt G x1 (A, U) (B, V') (C, W) ∧ Tri A' U' B' V'' C' W' ∧ ThreeAt G x2 (A', U') (B', V'') (C', W') := match k, hx with
      | 0, hx => ⟨t1, tp, tq, _, _, _, _, _, _, _, _, _, _, _, _, (Option.some.inj hx).symm, sG _ _ k1, T1, three_keep hT1 (Keep.of (K := K) (S0.trans sG)), T2, three_keep hT2 (Keep.of (K := K) (S0.trans sG))⟩
      | 1, hx => ⟨t2, tq, tp, _, _, _, _, _, _, _, _, _, _, _, _, (Option.some.inj hx).symm, sG _ _ k2, T2, three_keep hT2 (Keep.of (K := K) (S0.trans sG)), T1, three_keep hT1 (Keep.of (K := K) (S0.trans sG))⟩
      | k + 2, hx => by cases hx
    refine ⟨tx, _, rfl, SqT.of hx, rfl, _, _, rfl, _, _, rfl, rfl, ?_⟩
    have m1 : Mag (sqF (sqN A U B V' C W)) ((A + B + C) / 2) := tri_mag R1
    have m2 : Mag (sqF (sqN A' U' B' V'' C' W')) ((A' + B' + C') / 2) := tri_mag R2
    have J1 : (A + B + C) / 2 ≤ 60 := by
      have h1 := R1.p1.t1
      have h2 := R1.p2.t1
      have h3 := R1.p3.t1
      omega
    have J2 : (A' + B' + C') / 2 ≤ 60 := by
      have h1 := R2.p1.t1
      have h2 := R2.p2.t1
      have h3 := R2.p3.t1
      omega
    -- squares
    refine ⟨fun σ G4 => ∃ (q1 q2 : Addr), σ = [some (.ref a0), some (.ref p), some (.int bo), some (.ref tp), some (.ref tq), some (.ref x1), some (.ref x2), some (.ref q1), some (.ref q2), v9, v10, v11, v12, v13, v14, v15, v16, v17] ∧ Same G G4 ∧ SqA G4 q1 (sqF (sqN A U B V' C W)) ∧ SqA G4 q2 (sqF (sqN A' U' B' V'' C' W')), ?_, fun σ G4 hh => ?_⟩
    · exact ⟨_, rfl, x1, A, U, B, V', C, W, rfl, X1, fun q1 H' s' h1 => ⟨_, rfl, x2, A', U', B', V'', C', W', rfl, three_keep X2 (Keep.of (K := K) s'), fun q2 H'' s'' h2 => ⟨_, _, rfl, q1, q2, rfl, s'.trans s'', h1.same s'', h2⟩⟩⟩
    obtain ⟨q1, q2, rfl, s4, hq1, hq2⟩ := hh
    -- told
    refine ⟨fun σ G5 => ∃ (t : Addr), σ = [some (.ref a0), some (.ref p), some (.int bo), some (.ref tp), some (.ref tq), some (.ref x1), some (.ref x2), some (.ref q1), some (.ref q2), some (.ref t), v10, v11, v12, v13, v14, v15, v16, v17] ∧ Same G4 G5 ∧ (TellsA G5 t (sqF (sqN A U B V' C W)) (sqF (sqN A' U' B' V'' C' W')) ∨ TellsU G5 t (sqN A U B V' C W) (sqN A' U' B' V'' C' W')), ?_, fun σ G5 hh => ?_⟩
    · exact ⟨_, rfl, _, rfl, _, _, rfl, .inl ⟨A, U, B, V', C, W, A', U', B', V'', C', W', ⟨x1, rfl, three_keep X1 (Keep.of (K := K) s4), R1⟩, ⟨x2, rfl, three_keep X2 (Keep.of (K := K) s4), R2⟩, fun t H' s' tell => ⟨t, rfl, s', tell⟩⟩⟩
    obtain ⟨t, rfl, s5, tell⟩ := hh
    generalize sqN A U B V' C W = g1 at *
    generalize sqN A' U' B' V'' C' W' = g2 at *
    have hq1 := hq1.same s5
    have hq2 := hq2.same s5
    -- three at least
    refine ⟨fun σ G6 => σ = [some (.ref a0), some (.ref p), some (.int bo), some (.ref tp), some (.ref tq), some (.ref x1), some (.ref x2), some (.ref q1), some (.ref q2), some (.ref t), v10, v11, v12, v13, v14, v15, v16, v17] ∧ G6 = G5, ?_, fun σ G6 hh => ?_⟩
    · obtain ⟨xs, ht, lx⟩ : ∃ xs, G5 t = some (.tup xs) ∧ xs.length = 3 := by
        rcases tell with ⟨L, ss, h, _⟩ | ⟨_, y1, y2, _, _, _, _, h, _⟩
        · exact ⟨_, h, rfl⟩
        · exact ⟨_, h, rfl⟩
      refine ⟨_, rfl, _, _, _, _, true, rfl, .ty "tuple", .base (.tup ht), kit_ty (by decide +kernel), true, rfl, iteF ?_⟩
      refine ⟨_, rfl, t, _, rfl, .inr (SqT.of ht), _, 3, rfl, rfl, _, rfl, iteD0 (fun z => ?_) ⟨rfl, rfl⟩⟩
      rw [lx] at z
      exact absurd z (by decide)
    obtain ⟨rfl, rfl⟩ := hh
    refine ⟨_, rfl, _, rfl, q1, g1, rfl, hq1, fun l us H' s' hln hl hF => ⟨l, rfl, ⟨_, SqL.of hl⟩, fun D hD => ?_⟩⟩
    refine lc_list (xs := us.map V.ref) (fun i G => Same H' G ∧ ∃ bs : List Addr, G D = some (.lst (bs.map V.ref)) ∧ bs.length = i ∧ ∀ (j : Nat) b y, bs[j]? = some b → (frmsL g1)[j]? = some y → ∃ S, SqA G b S ∧ nine S = y.1) ⟨same_upd hD, [], upd_same, rfl, fun j b y h _ => by simp at h⟩ (fun i G _ hP => SqL.of (hP.1 _ _ hl)) (fun i x G hx hP => ?_) (fun G hP => ?_)
    · obtain ⟨sG, bs, hG, lb, hB⟩ := hP
      rw [List.getElem?_map] at hx
      obtain ⟨u, hu', rfl⟩ := Option.map_eq_some_iff.mp hx
      have il : i < us.length := (List.getElem?_eq_some_iff.mp hu').1
      have lF := hF.len
      have l72 : (frmsL g1).length = 72 := rfl
      obtain ⟨y, hy⟩ : ∃ y, (frmsL g1)[i]? = some y := ⟨_, List.getElem?_eq_getElem (by omega)⟩
      obtain ⟨b, S, h1, h2, h3⟩ := (hF.at_ i u y hu' hy).same sG
      refine ⟨u, _, rfl, SqT.of h1, rfl, _, _, rfl, _, _, rfl, rfl, rfl, ?_⟩
      refine ⟨_, rfl, _, hG, ?_, same_at sG hD, bs ++ [b], ?_, ?_, fun j b' y' e1 e2 => ?_⟩
      · rw [List.length_map, lb]
        exact Nat.lt_of_le_of_lt (m := 72) (by omega) (by decide)
      · rw [upd_same, List.map_append]
        rfl
      · rw [List.length_append, lb]
        rfl
      · have kt : ∀ {c : Addr} {zs : List V} {o : HO}, G c = some (.tup zs) → (upd G D o) c = some (.tup zs) := fun {c zs o} e => by
          rw [upd_ne fun z => by rw [z, hG] at e; cases e]
          exact e
        have ks : ∀ {c : Addr} {S : Nat → Nat → Int} {o : HO}, SqA G c S → SqA (upd G D o) c S := fun {c S o} ⟨r0, r1, r2, g0, g1, g2, g3⟩ => ⟨r0, r1, r2, kt g0, kt g1, kt g2, kt g3⟩
        by_cases z : j < bs.length
        · rw [List.getElem?_append_left z] at e1
          obtain ⟨S', q1, q2⟩ := hB j b' y' e1 e2
          exact ⟨S', ks q1, q2⟩
        · have jl : j < (bs ++ [b]).length := (List.getElem?_eq_some_iff.mp e1).1
          rw [List.length_append] at jl
          have ej : j = bs.length := by
            have : ([b] : List Addr).length = 1 := rfl
            omega
          rw [ej, List.getElem?_append_right (Nat.le_refl _), Nat.sub_self] at e1
          cases e1
          rw [ej, lb, hy] at e2
          cases e2
          exact ⟨S, ks h2, h3⟩
    obtain ⟨sG7, bs, hG, lb, hB⟩ := hP
    rw [List.length_map, hF.len] at lb
    have s7 := s'.trans sG7
    have hq1 := hq1.same s7
    have hq2 := hq2.same s7
    obtain ⟨ck, eck⟩ : ∃ ck, (((frmsL g1).map fun y => sqD y.1).any fun z => PyData.eqv z (sqD (nine (sqF g2)))) = ck := ⟨_, rfl⟩
    refine ⟨_, _, hq2.dp, .lst (SqL.of hG) (dpAll_frm lb hB), sq_shaped rfl, forms_shaped g1, ck, congrArg V.bl eck, ?_⟩
    have af := any_forms g1 (Y := nine (sqF g2)) rfl
    rw [eck] at af
    have go : ∀ H9, Same G6 H9 → ∀ z10 z11 : Option V, ∃ (v5 v6 v7 v8 v9 v10 v11 : Option V), [some (.ref a0), some (.ref p), some (.int bo), some (.ref tp), some (.ref tq), some (.ref x1), some (.ref x2), some (.ref q1), some (.ref q2), some (.ref t), z10, z11, v12, v13, v14, v15, v16, v17] = [some (.ref a0), some (.ref p), some (.int bo), some (.ref tp), some (.ref tq), v5, v6, v7, v8, v9, v10, v11, v12, v13, v14, v15, v16, v17] ∧ Same G3 H9 := fun H9 s9 _ _ => ⟨_, _, _, _, _, _, _, rfl, sG.trans ((s4.trans s5).trans s9)⟩
    rcases tell with ⟨L, ss, ht, hW, hss, e9⟩ | ⟨hno, y1, y2, Y1, Y2, M1, M2, ht, hY1, hY2, L1, L2'⟩
    · have : ck = true := af.mpr ⟨ss, hss, e9⟩
      rw [this]
      refine iteT ?_
      have ht7 := s7 _ _ ht
      refine ⟨_, rfl, t, _, 0, _, rfl, rfl, SqT.of ht7, rfl, rfl, _, rfl, iteNS rfl ?_⟩
      obtain ⟨ok, l5⟩ := ways_fine ss hss
      refine ⟨_, rfl, _, rfl, _, rfl, q1, q2, t, L, _, _, ss, rfl, hq1, hq2, ht7, hW.same s7, ok, l5, e9, fun H9 s9 => ?_⟩
      exact ⟨true, rfl, iteF (go H9 (s7.trans s9) _ _)⟩
    · have : ck = false := by
        cases ck with
        | false => rfl
        | true =>
          obtain ⟨ss, h1, h2⟩ := af.mp rfl
          exact absurd h2 (hno ss h1)
      rw [this]
      refine iteF ?_
      obtain ⟨k1, k2, k3, k4⟩ := unlike_shows (X := nine Y1) (Y := nine Y2) rfl rfl (lst_small m1 J1 L1) (lst_small m2 J2 L2')
      refine ⟨_, rfl, t, unlikeD (nine Y1) (nine Y2), rfl, .tup (SqT.of (s7 _ _ ht)) (.cons (.str _) (.cons (hY1.same s7).dp (.cons (hY2.same s7).dp .nil))), k1, k2, k3, k4, ?_⟩
      refine ⟨_, rfl, q1, g1, rfl, hq1, fun r1 x1' S m H9 s9 hr1 hx1 hL1 => ?_⟩
      refine ⟨r1, _, 0, _, rfl, rfl, SqT.of hr1, rfl, _, rfl, q2, g2, rfl, hq2.same s9, fun r2 x2' S' m' H10 s10 hr2 hx2 hL2 => ?_⟩
      refine ⟨r2, _, 0, _, rfl, rfl, SqT.of hr2, rfl, by show 3 ≤ sizeLine; decide, fun tt htt => ?_⟩
      have s11 := same_upd (o := .tup [.str "unlike", .ref x1', .ref x2']) htt
      obtain ⟨e1, _, _⟩ := least_same m1 J1 L1 hL1
      obtain ⟨e2, _, _⟩ := least_same m2 J2 L2' hL2
      refine ⟨tt, unlikeD (nine Y1) (nine Y2), rfl, .tup (SqT.of upd_same) (.cons (.str _) (.cons ?_ (.cons ?_ .nil))), k1, k2, k3, k4, ?_⟩
      · rw [e1]
        exact (hx1.same (s10.trans s11)).dp
      · rw [e2]
        exact (hx2.same s11).dp
      exact ⟨rfl, false, by rw [decide_eq_true rfl]; rfl, iteF (go _ (s7.trans (s9.trans (s10.trans s11))) _ _)⟩
  obtain ⟨v5', v6', v7', v8', v9', v10', v11', rfl, s3⟩ := hh
  clear v5 v6 v7 v8 v9 v10 v11
  have penC := penB.same s3
  have tbC := tbB.ext s3
  have hT1 := three_keep hT1 (Keep.of (K := K) s3)
  have hT2 := three_keep hT2 (Keep.of (K := K) s3)
  -- what is wrong in the first
  refine ⟨fun σ G4 => ∃ (x : V) (wd : Str) (C : Addr) (n3 : Int), σ = [some (.ref a0), some (.ref p), some (.int bo), some (.ref tp), some (.ref tq), v5', v6', v7', v8', v9', v10', v11', some x, some (.str wd), v14, v15, v16, v17] ∧ BadT K CT CS CO G4 x C ∧ WordOf CT CS CO wd C ∧ ThreeAt G4 tp (a, u) (b, v) (d, w) ∧ ThreeAt G4 tq (a', u') (b', v') (d', w') ∧ n2 ≤ n3 ∧ n3 ≤ n2 + 10 ∧ PenAt G4 p c ms n3 ∧ LamX.Tabs (tLaw K) G4, ?_, fun σ G4 hh => ?_⟩
  · refine ⟨_, rfl, _, rfl, p, c, tp, ms, n2, a, u, b, v, d, w, rfl, penC, by omega, by omega, T1, hT1, fun r n' H' row m0 m1 pen' sb' => ?_⟩
    obtain ⟨x, wd, C, hr', bad, wo⟩ := row
    have kk := Keep.pen (K := K) penC pen' sb'
    exact ⟨r, _, rfl, SqT.of hr', rfl, _, _, rfl, _, _, rfl, rfl, x, wd, C, n', rfl, bad, wo, three_keep hT1 kk, three_keep hT2 kk, m0, m1, pen', tabs_but tbC penC sb'⟩
  clear hT1 hT2
  obtain ⟨x, wd, C, n3, rfl, bad, wo, hT1, hT2, w0, w1, penD, tbD⟩ := hh
  -- in the second
  refine ⟨fun σ G5 => ∃ (y : V) (we : Str) (D : Addr) (n4 : Int), σ = [some (.ref a0), some (.ref p), some (.int bo), some (.ref tp), some (.ref tq), v5', v6', v7', v8', v9', v10', v11', some x, some (.str wd), some y, some (.str we), v16, v17] ∧ BadT K CT CS CO G5 x C ∧ BadT K CT CS CO G5 y D ∧ WordOf CT CS CO we D ∧ ThreeAt G5 tp (a, u) (b, v) (d, w) ∧ n2 ≤ n4 ∧ n4 ≤ n2 + 20 ∧ PenAt G5 p c ms n4 ∧ LamX.Tabs (tLaw K) G5, ?_, fun σ G5 hh => ?_⟩
  · refine ⟨_, rfl, _, rfl, p, c, tq, ms, n3, a', u', b', v', d', w', rfl, penD, by omega, by omega, T2, hT2, fun r n' H' row m0 m1 pen' sb' => ?_⟩
    obtain ⟨y, we, D, hr', bad2, wo2⟩ := row
    have kk := Keep.pen (K := K) penD pen' sb'
    exact ⟨r, _, rfl, SqT.of hr', rfl, _, _, rfl, _, _, rfl, rfl, y, we, D, n', rfl, bad.keep kk, bad2, wo2, three_keep hT1 kk, by omega, by omega, pen', tabs_but tbD penD sb'⟩
  clear hT1 hT2 bad penD tbD
  obtain ⟨y, we, D, n4, rfl, badX, badY, wo2, hT1, w2, w3, penE, tbE⟩ := hh
  -- the rows
  refine ⟨fun σ G6 => ∃ (R r1 r2 r3 : Addr), σ = [some (.ref a0), some (.ref p), some (.int bo), some (.ref tp), some (.ref tq), v5', v6', v7', v8', v9', v10', v11', some x, some (.str wd), some y, some (.str we), some (.ref R), v17] ∧ Same G5 G6 ∧ G6 R = some (.lst [.ref r1, .ref r2, .ref r3]) ∧ G6 r1 = some (.tup [x, .ref tq, .str wd]) ∧ G6 r2 = some (.tup [.ref tp, y, .str we]) ∧ G6 r3 = some (.tup [x, y, .str wd]), ?_, fun σ G6 hh => ?_⟩
  · refine ⟨_, rfl, _, rfl, _, rfl, by show 3 ≤ sizeLine; decide, fun r1 h1 => ?_⟩
    refine ⟨_, rfl, _, rfl, _, rfl, by show 3 ≤ sizeLine; decide, fun r2 h2 => ?_⟩
    refine ⟨_, rfl, _, rfl, _, rfl, by show 3 ≤ sizeLine; decide, fun r3 h3 => ?_⟩
    refine ⟨by show 3 ≤ sizeLine; decide, fun R hR => ?_⟩
    have s1 := same_upd (o := .tup [x, .ref tq, .str wd]) h1
    have s2 := same_upd (o := .tup [.ref tp, y, .str we]) h2
    have s3 := same_upd (o := .tup [x, y, .str wd]) h3
    have s4 := same_upd (o := .lst [.ref r1, .ref r2, .ref r3]) hR
    exact ⟨R, r1, r2, r3, rfl, s1.trans (s2.trans (s3.trans s4)), upd_same, s4 _ _ (s3 _ _ (s2 _ _ upd_same)), s4 _ _ (s3 _ _ upd_same), s4 _ _ upd_same⟩
  obtain ⟨R, r1, r2, r3, rfl, s6, hR, hr1', hr2', hr3'⟩ := hh
  have pen6 := penE.same s6
  have tb6 := tbE.ext s6
  have bX := badX.same s6
  have bY := badY.same s6
  have g1 : GoodT G6 (.ref tp) a u b v d w := ⟨tp, rfl, three_keep hT1 (Keep.of (K := K) s6), T1⟩
  refine ⟨_, rfl, R, rfl, ⟨_, SqL.of hR⟩, for_list (xs := [V.ref r1, V.ref r2, V.ref r3]) (fun k σ G => ∃ (v5 v6 v7 v8 v9 v10 v11 v17 : Option V), σ = [some (.ref a0), some (.ref p), some (.int bo), some (.ref tp), some (.ref tq), v5, v6, v7, v8, v9, v10, v11, some x, some (.str wd), some y, some (.str we), some (.ref R), v17] ∧ LamX.ExtN G6 G ∧ PenAt G p c ms n4 ∧ LamX.Tabs (tLaw K) G)
    ⟨_, _, _, _, _, _, _, _, rfl, LamX.ExtN.refl _, pen6, tb6⟩ (fun k σ G _ hP => ?_) (fun k z σ G hz hP => ?_) (fun σ G hP => ?_)⟩
  · obtain ⟨_, _, _, _, _, _, _, _, _, eN, _⟩ := hP
    exact SqL.of (eN _ _ hR (fun _ z => by cases z))
  rotate_left
  · obtain ⟨v5, v6, v7, v8, v9, v10, v11, v17, rfl, eN, pz, tz⟩ := hP
    refine ⟨n4, _, _, _, _, _, _, _, _, _, _, _, _, _, _, _, _, rfl, by omega, ?_, pz, tz⟩
    have : (((i + 1 : Nat)) : Int) = (i : Int) + 1 := by omega
    omega
  obtain ⟨v5, v6, v7, v8, v9, v10, v11, v17, rfl, eN, pz, tz⟩ := hP
  obtain ⟨rz, X, Y, wz, CZ, rfl, hrz, ref, woZ⟩ : ∃ (rz : Addr) (X Y : V) (wz : Str) (CZ : Addr), z = .ref rz ∧ G rz = some (.tup [X, Y, .str wz]) ∧ RefP K CT CS CO G X Y CZ ∧ WordOf CT CS CO wz CZ := match k, hz with
    | 0, hz => ⟨r1, x, .ref tq, wd, C, (Option.some.inj hz).symm, eN _ _ hr1' (fun _ z => by cases z), (RefP.keep (.inl bX) (Keep.extN eN)), wo⟩
    | 1, hz => ⟨r2, .ref tp, y, we, D, (Option.some.inj hz).symm, eN _ _ hr2' (fun _ z => by cases z), (RefP.keep (.inr ⟨_, _, _, _, _, _, g1, bY⟩) (Keep.extN eN)), wo2⟩
    | 2, hz => ⟨r3, x, y, wd, C, (Option.some.inj hz).symm, eN _ _ hr3' (fun _ z => by cases z), (RefP.keep (.inl bX) (Keep.extN eN)), wo⟩
    | k + 3, hz => by cases hz
  refine ⟨rz, _, rfl, SqT.of hrz, rfl, _, _, rfl, _, _, rfl, _, _, rfl, rfl, ?_⟩
  refine ⟨tz, fun H15 eN2 T15 H16 s16 => ?_⟩
  have eA : LamX.ExtN G H16 := eN2.trans (LamX.ExtN.of s16)
  have ref16 := ref.keep (Keep.extN (K := K) eA)
  have p16 : PenAt H16 p c ms n4 := (penExtN pz eN2).same s16
  have T16 := T15.ext s16
  have hw : wz = "size" ∨ wz = "triple" ∨ wz = "offset" := by
    rcases woZ with ⟨e, _⟩ | ⟨e, _⟩ | ⟨e, _⟩
    · exact .inr (.inl e)
    · exact .inl e
    · exact .inr (.inr e)
  obtain ⟨nn, kd, nlt, hx, ew⟩ : ∃ nn : Nat, Kind K CZ nn ∧ nn < 18 ∧ PySem.W.exmAny K (.ref CZ) [.ref (He.ga K "TurnError")] = some true ∧ words.getD nn "" = wz := by
    rcases woZ with ⟨rfl, rfl⟩ | ⟨rfl, rfl⟩ | ⟨rfl, rfl⟩
    · exact ⟨15, T.kdT, by decide, T.hxT, rfl⟩
    · exact ⟨9, T.kdS, by decide, T.hxS, rfl⟩
    · exact ⟨6, T.kdO, by decide, T.hxO, rfl⟩
  refine ⟨_, rfl, _, rfl, ⟨ref16.sp fun H18 s18 => ?_⟩⟩
  refine ⟨CZ, nn, rfl, rfl, kd, nlt, hx, fun pp H19 s19 hpp => ?_⟩
  rw [ew] at hpp
  have s1619 := s18.trans s19
  refine ⟨_, rfl, by show 2 ≤ sizeLine; decide, fun t3 ht3 => ?_⟩
  have s22 := same_upd (o := .tup [.str "refused", .str wz]) ht3
  have s1622 := s1619.trans s22
  refine ⟨dRefW wz, dRefW wz, dp_refW (s22 _ _ hpp), dp_refW upd_same, (dRefW_ok hw).1, (dRefW_ok hw).1, _, rfl, ?_⟩
  rw [(dRefW_ok hw).2]
  exact iteF ⟨_, _, _, _, _, _, _, _, rfl, (eN.trans eA).trans (LamX.ExtN.of s1622), p16.same s1622, T16.ext s1622⟩
end
end TB
namespace TC
open PySem PySem.Spec PyProof.Rows L2 TCA TCX 
theorem facts {P : Program} {w : World} {K : PySem.W.Frag} {h : Heap} {mg : Str → Option Value} {f : Addr} (X : K.In h) (G : h.Ns mainGlobals mg) (hfa : mg ("law" : Str) = some (.ref f)) (sx : He.SaysX fa fn [] tf exB w h K) :
    ∃ fd : FuncData, (∀ (s : Shared) (v : Value), BindsTo s fd ⟨[v], []⟩ [("_law_script", v)]) ∧ ∀ base : Heap, K.In base → base.Ns mainGlobals mg → LamX.TabB base mg (He.cT K ("law", none)).1 (He.cT K ("law", none)).2 → FnG P w K mg base CX0 10 f fd ["_law_script"] (TB.spLaw K) := by
  have c := sx.t.d
  obtain ⟨fd0, F0⟩ := c.def_ 0 (d := dd "is_whole" sWhole) rfl
  obtain ⟨fd1, F1⟩ := c.def_ 1 (d := dd "is_odd" sOdd) rfl
  obtain ⟨fd2, F2⟩ := c.def_ 2 (d := dd "is_size" sIsSize) rfl
  obtain ⟨fd3, F3⟩ := c.def_ 3 (d := dd "is_offset" sIsOffset) rfl
  obtain ⟨fd4, F4⟩ := c.def_ 4 (d := dd "need_sizes" sNeedSizes) rfl
  obtain ⟨fd5, F5⟩ := c.def_ 5 (d := dd "need_pairs" sNeedPairs) rfl
  obtain ⟨fd6, F6⟩ := c.def_ 6 (d := dd "can_join" sCanJoin) rfl
  obtain ⟨fd7, F7⟩ := c.def_ 7 (d := dd "square_of" sSquareOf) rfl
  obtain ⟨fd8, F8⟩ := c.def_ 8 (d := dd "alike_threes" sAlike3) rfl
  obtain ⟨fd9, F9⟩ := c.def_ 9 (d := dd "square_of_triple" sSquareOfT) rfl
  obtain ⟨fd10, F10⟩ := c.def_ 10 (d := dd "need_square" sNeedSquare) rfl
  obtain ⟨fd11, F11⟩ := c.def_ 11 (d := dd "square_with" sSquareWith) rfl
  obtain ⟨fd12, F12⟩ := c.def_ 12 (d := dd "all_ways" sAllWays) rfl
  obtain ⟨fd13, F13⟩ := c.def_ 13 (d := dd "square_behind" sBehind) rfl
  obtain ⟨fd14, F14⟩ := c.def_ 14 (d := dd "exchanged" sExchanged) rfl
  obtain ⟨fd15, F15⟩ := c.def_ 15 (d := dd "sign_along" sSignAlong) rfl
  obtain ⟨fd16, F16⟩ := c.def_ 16 (d := dd "least_square" sLeastSq) rfl
  obtain ⟨fd17, F17⟩ := c.def_ 17 (d := dd "_law_pen" sPen) rfl
  obtain ⟨fd18, F18⟩ := c.def_ 18 (d := dd "_law_draw" sDraw) rfl
  obtain ⟨fd19, F19⟩ := c.def_ 19 (d := dd "_law_word" sWord) rfl
  obtain ⟨fd20, F20⟩ := c.def_ 20 (d := dd "_law_said" sSaid) rfl
  obtain ⟨fd21, F21⟩ := c.def_ 21 (d := dd "_law_fits" sFits) rfl
  obtain ⟨fd22, F22⟩ := c.def_ 22 (d := dd "_law_third" sThird) rfl
  obtain ⟨fd23, F23⟩ := c.def_ 23 (d := dd "_law_odd" sOddL) rfl
  obtain ⟨fd24, F24⟩ := c.def_ 24 (d := dd "_law_pairs" sPairs) rfl
  obtain ⟨fd25, F25⟩ := c.def_ 25 (d := dd "_law_sizes" sSizesL) rfl
  obtain ⟨fd26, F26⟩ := c.def_ 26 (d := dd "_law_square" sSquareL) rfl
  obtain ⟨fd27, F27⟩ := c.def_ 27 (d := dd "_law_flip" sFlipL) rfl
  obtain ⟨fd28, F28⟩ := c.def_ 28 (d := dd "_law_orders" sOrdersL) rfl
  obtain ⟨fd29, F29⟩ := c.def_ 29 (d := dd "_law_forms" sFormsL) rfl
  obtain ⟨fd30, F30⟩ := c.def_ 30 (d := dd "_law_least" sLeastL) rfl
  obtain ⟨fd31, F31⟩ := c.def_ 31 (d := dd "_law_triple" sTriple17) rfl
  obtain ⟨fd32, F32⟩ := c.def_ 32 (d := dd "_law_step" sStepL) rfl
  obtain ⟨fd33, F33⟩ := c.def_ 33 (d := dd "_law_steps_right" sStepsR) rfl
  obtain ⟨fd34, F34⟩ := c.def_ 34 (d := dd "_law_other" sOtherL) rfl
  obtain ⟨fd35, F35⟩ := c.def_ 35 (d := dd "_law_wrong" sWrongL) rfl
  obtain ⟨fd36, F36⟩ := c.def_ 36 (d := dd "law" sLaw) rfl
  have glo : ∀ (i : Nat) (x : Str), TC.fa[i]? = some (.glo x) → mg x = some (.ref (He.ga K x)) := fun i x e => He.glo_ok X G (c.fact i (f := .glo x) e)
  have free : ∀ (i : Nat) (x : Str), TC.fa[i]? = some (.free x) → mg x = none := fun i x e => He.free_ok X G (c.fact i (f := .free x) e)
  obtain ⟨ti_HIGHEST_SIZE, gi_HIGHEST_SIZE⟩ := He.int_ok X G (c.fact 60 (f := .int "HIGHEST_SIZE" 40) rfl)
  obtain ⟨xo, xe⟩ := He.ba sx.more
  obtain ⟨m1, x2⟩ := He.ba xe
  obtain ⟨m2, m3⟩ := He.ba x2
  obtain ⟨kdT, hxT⟩ := excAll_ok m1
  obtain ⟨kdS, hxS⟩ := excAll_ok m2
  obtain ⟨kdO, hxO⟩ := excAll_ok m3
  obtain ⟨xE_NoTriple, xK_NoTriple, xB_NoTriple, xT_NoTriple⟩ := He.exc_ok (c.fact 61 (f := .exc "NoTriple") rfl)
  have XT_NoTriple : TB.XTxt K mg "NoTriple" (He.ga K "NoTriple") := ⟨(glo 4 "NoTriple" rfl), xE_NoTriple, xK_NoTriple, xB_NoTriple, xT_NoTriple⟩
  obtain ⟨xE_NoSize, xK_NoSize, xB_NoSize, xT_NoSize⟩ := He.exc_ok (c.fact 62 (f := .exc "NoSize") rfl)
  have XT_NoSize : TB.XTxt K mg "NoSize" (He.ga K "NoSize") := ⟨(glo 2 "NoSize" rfl), xE_NoSize, xK_NoSize, xB_NoSize, xT_NoSize⟩
  obtain ⟨xE_NoOffset, xK_NoOffset, xB_NoOffset, xT_NoOffset⟩ := He.exc_ok (c.fact 63 (f := .exc "NoOffset") rfl)
  have XT_NoOffset : TB.XTxt K mg "NoOffset" (He.ga K "NoOffset") := ⟨(glo 3 "NoOffset" rfl), xE_NoOffset, xK_NoOffset, xB_NoOffset, xT_NoOffset⟩
  have WT : WTxt K mg := ⟨fun i x e => ?_, (glo 0 "TurnError" rfl), (free 81 "ValueError" rfl), (free 64 "isinstance" rfl)⟩
  rotate_left
  · match i, e with
    | 0, e => cases e; exact glo 16 "Empty" rfl
    | 1, e => cases e; exact glo 14 "NoDeed" rfl
    | 2, e => cases e; exact glo 12 "NoHalf" rfl
    | 3, e => cases e; exact glo 13 "NoLinking" rfl
    | 4, e => cases e; exact glo 7 "NoNet" rfl
    | 5, e => cases e; exact glo 1 "NoNumber" rfl
    | 6, e => cases e; exact glo 3 "NoOffset" rfl
    | 7, e => cases e; exact glo 15 "NoQuestion" rfl
    | 8, e => cases e; exact glo 8 "NoRow" rfl
    | 9, e => cases e; exact glo 2 "NoSize" rfl
    | 10, e => cases e; exact glo 9 "NoStanding" rfl
    | 11, e => cases e; exact glo 5 "NoTable" rfl
    | 12, e => cases e; exact glo 18 "NoText" rfl
    | 13, e => cases e; exact glo 17 "NotParted" rfl
    | 14, e => cases e; exact glo 10 "NoTree" rfl
    | 15, e => cases e; exact glo 4 "NoTriple" rfl
    | 16, e => cases e; exact glo 11 "NoWay" rfl
    | 17, e => cases e; exact glo 6 "TooWide" rfl
    | 18, e => cases e; exact glo 21 "ByNought" rfl
    | 19, e => cases e; exact glo 19 "NoName" rfl
    | 20, e => cases e; exact glo 20 "NoPlace" rfl
    | 21, e => cases e; exact glo 22 "NothingDone" rfl
    | n + 22, e =>
      have z : ([] : List Str)[n]? = some x := e
      cases z
  have ST : STxt K mg := ⟨(glo 0 "TurnError" rfl), (glo 21 "ByNought" rfl), (glo 19 "NoName" rfl), (glo 20 "NoPlace" rfl), (glo 22 "NothingDone" rfl)⟩
  have e := hfa.symm.trans (glo 59 "law" rfl)
  cases e
  have b0 := FunD.bindsN (ps := ["thing"]) F0 fun _ _ _ _ _ _ us hl => match us, hl with | [_], _ => rfl
  have b1 := FunD.bindsN (ps := ["number"]) F1 fun _ _ _ _ _ _ us hl => match us, hl with | [_], _ => rfl
  have b2 := FunD.bindsN (ps := ["thing"]) F2 fun _ _ _ _ _ _ us hl => match us, hl with | [_], _ => rfl
  have b3 := FunD.bindsN (ps := ["thing", "size"]) F3 fun _ _ _ _ _ _ us hl => match us, hl with | [_, _], _ => rfl
  have b4 := FunD.bindsN (ps := ["things"]) F4 fun _ _ _ _ _ _ us hl => match us, hl with | [_], _ => rfl
  have b5 := FunD.bindsN (ps := ["things"]) F5 fun _ _ _ _ _ _ us hl => match us, hl with | [_], _ => rfl
  have b6 := FunD.bindsN (ps := ["one", "other", "third"]) F6 fun _ _ _ _ _ _ us hl => match us, hl with | [_, _, _], _ => rfl
  have b7 := FunD.bindsN (ps := ["one", "other", "third"]) F7 fun _ _ _ _ _ _ us hl => match us, hl with | [_, _, _], _ => rfl
  have b8 := FunD.bindsN (ps := ["triple", "other"]) F8 fun _ _ _ _ _ _ us hl => match us, hl with | [_, _], _ => rfl
  have b9 := FunD.bindsN (ps := ["triple"]) F9 fun _ _ _ _ _ _ us hl => match us, hl with | [_], _ => rfl
  have b10 := FunD.bindsN (ps := ["one", "other", "third"]) F10 fun _ _ _ _ _ _ us hl => match us, hl with | [_, _, _], _ => rfl
  have b11 := FunD.bindsN (ps := ["one", "other", "third"]) F11 fun _ _ _ _ _ _ us hl => match us, hl with | [_, _, _], _ => rfl
  have b12 := FunD.bindsN (ps := []) F12 fun _ _ _ _ _ _ us hl => match us, hl with | [], _ => rfl
  have b13 := FunD.bindsN (ps := ["square", "steps"]) F13 fun _ _ _ _ _ _ us hl => match us, hl with | [_, _], _ => rfl
  have b14 := FunD.bindsN (ps := ["square", "step"]) F14 fun _ _ _ _ _ _ us hl => match us, hl with | [_, _], _ => rfl
  have b15 := FunD.bindsN (ps := ["square", "steps"]) F15 fun _ _ _ _ _ _ us hl => match us, hl with | [_, _], _ => rfl
  have b16 := FunD.bindsN (ps := ["square"]) F16 fun _ _ _ _ _ _ us hl => match us, hl with | [_], _ => rfl
  have b17 := FunD.bindsN (ps := ["_law_script"]) F17 fun _ _ _ _ _ _ us hl => match us, hl with | [_], _ => rfl
  have b18 := FunD.bindsN (ps := ["_law_pen_here", "_law_many"]) F18 fun _ _ _ _ _ _ us hl => match us, hl with | [_, _], _ => rfl
  have b19 := FunD.bindsN (ps := ["_law_e"]) F19 fun _ _ _ _ _ _ us hl => match us, hl with | [_], _ => rfl
  have b20 := FunD.bindsN (ps := ["_law_call"]) F20 fun _ _ _ _ _ _ us hl => match us, hl with | [_], _ => rfl
  have b21 := FunD.bindsN (ps := ["_law_a", "_law_b", "_law_c"]) F21 fun _ _ _ _ _ _ us hl => match us, hl with | [_, _, _], _ => rfl
  have b22 := FunD.bindsN (ps := ["_law_pen_here", "_law_a", "_law_b", "_law_high"]) F22 fun _ _ _ _ _ _ us hl => match us, hl with | [_, _, _, _], _ => rfl
  have b23 := FunD.bindsN (ps := ["_law_pen_here"]) F23 fun _ _ _ _ _ _ us hl => match us, hl with | [_], _ => rfl
  have b24 := FunD.bindsN (ps := ["_law_pen_here", "_law_sizes_here"]) F24 fun _ _ _ _ _ _ us hl => match us, hl with | [_, _], _ => rfl
  have b25 := FunD.bindsN (ps := ["_law_pen_here", "_law_high"]) F25 fun _ _ _ _ _ _ us hl => match us, hl with | [_, _], _ => rfl
  have b26 := FunD.bindsN (ps := ["_law_pairs_here"]) F26 fun _ _ _ _ _ _ us hl => match us, hl with | [_], _ => rfl
  have b27 := FunD.bindsN (ps := ["_law_square_here"]) F27 fun _ _ _ _ _ _ us hl => match us, hl with | [_], _ => rfl
  have b28 := FunD.bindsN (ps := []) F28 fun _ _ _ _ _ _ us hl => match us, hl with | [], _ => rfl
  have b29 := FunD.bindsN (ps := ["_law_square_here"]) F29 fun _ _ _ _ _ _ us hl => match us, hl with | [_], _ => rfl
  have b30 := FunD.bindsN (ps := ["_law_square_here"]) F30 fun _ _ _ _ _ _ us hl => match us, hl with | [_], _ => rfl
  have b31 := FunD.bindsN (ps := ["_law_pen_here", "_law_high"]) F31 fun _ _ _ _ _ _ us hl => match us, hl with | [_, _], _ => rfl
  have b32 := FunD.bindsN (ps := ["_law_square_here", "_law_step_here"]) F32 fun _ _ _ _ _ _ us hl => match us, hl with | [_, _], _ => rfl
  have b33 := FunD.bindsN (ps := ["_law_square_here", "_law_goal", "_law_told"]) F33 fun _ _ _ _ _ _ us hl => match us, hl with | [_, _, _], _ => rfl
  have b34 := FunD.bindsN (ps := ["_law_pen_here", "_law_pairs_here"]) F34 fun _ _ _ _ _ _ us hl => match us, hl with | [_, _], _ => rfl
  have b35 := FunD.bindsN (ps := ["_law_pen_here", "_law_pairs_here"]) F35 fun _ _ _ _ _ _ us hl => match us, hl with | [_, _], _ => rfl
  have b := FunD.bindsA (ps := ["_law_script"]) F36 fun _ _ _ _ _ _ us hl => match us, hl with | [_], _ => rfl
  refine ⟨fd36, fun s v => b s [v] rfl, fun base _ _ TBb => ?_⟩
  have G_law_pen := TC.ok_pen (P := P) (w := w) (mg := mg) (base := base) F17 (free 68 "list" rfl)
  have G_law_draw := TC.ok_draw (P := P) (w := w) (mg := mg) (base := base) F18 (free 70 "len" rfl)
  have G_law_fits := TC.ok_fits (P := P) (w := w) (mg := mg) (base := base) F21
  have G_law_third := TC.ok_third (P := P) (w := w) (mg := mg) (base := base) F22 G_law_draw b18 F18.kp (glo 41 "_law_draw" rfl) G_law_fits b21 F21.kp (glo 44 "_law_fits" rfl) (free 69 "range" rfl) (free 65 "int" rfl) (free 67 "abs" rfl) (free 70 "len" rfl)
  have G_law_sizes := TC.ok_sizesL (P := P) (w := w) (mg := mg) (base := base) F25 G_law_draw b18 F18.kp (glo 41 "_law_draw" rfl) G_law_third b22 F22.kp (glo 45 "_law_third" rfl)
  have G_law_pairs := TC.ok_pairs (P := P) (w := w) (mg := mg) (base := base) F24 G_law_draw b18 F18.kp (glo 41 "_law_draw" rfl) (free 75 "max" rfl) (free 74 "min" rfl)
  have G_law_triple := TC.ok_triple17 (P := P) (w := w) (mg := mg) (base := base) F31 G_law_draw b18 F18.kp (glo 41 "_law_draw" rfl) G_law_sizes b25 F25.kp (glo 48 "_law_sizes" rfl) G_law_pairs b24 F24.kp (glo 47 "_law_pairs" rfl) (free 74 "min" rfl) (free 73 "tuple" rfl)
  have G_law_square := TC.ok_squareL (P := P) (w := w) (mg := mg) (base := base) F26
  have G_law_flip := TC.ok_flipL (P := P) (w := w) (mg := mg) (base := base) F27 (free 73 "tuple" rfl) (free 69 "range" rfl)
  have G_law_orders := TC.ok_ordersL (P := P) (w := w) (mg := mg) (base := base) F28
  have G_law_forms := TC.ok_formsL (P := P) (w := w) (mg := mg) (base := base) F29 G_law_flip b27 F27.kp (glo 50 "_law_flip" rfl) G_law_orders b28 F28.kp (glo 51 "_law_orders" rfl) (free 71 "sum" rfl) (free 73 "tuple" rfl)
  have G_law_least := TC.ok_leastL (P := P) (w := w) (mg := mg) (base := base) F30 G_law_forms b29 F29.kp (glo 52 "_law_forms" rfl) (free 74 "min" rfl) (free 70 "len" rfl)
  have G_law_other := TC.ok_otherL (P := P) (w := w) (mg := mg) (base := base) F34 G_law_draw b18 F18.kp (glo 41 "_law_draw" rfl) G_law_triple b31 F31.kp (glo 54 "_law_triple" rfl) G_law_square b26 F26.kp (glo 49 "_law_square" rfl) G_law_forms b29 F29.kp (glo 52 "_law_forms" rfl) (free 73 "tuple" rfl) (free 69 "range" rfl) (free 75 "max" rfl)
  have G_law_step := TC.ok_stepL (P := P) (w := w) (mg := mg) (base := base) F32 G_law_flip b27 F27.kp (glo 50 "_law_flip" rfl) (free 64 "isinstance" rfl) (free 73 "tuple" rfl) (free 70 "len" rfl) (free 76 "repr" rfl)
  have G_law_steps_right := TC.ok_stepsR (P := P) (w := w) (mg := mg) (base := base) F33 G_law_step b32 F32.kp (glo 55 "_law_step" rfl) (free 64 "isinstance" rfl) (free 68 "list" rfl) (free 70 "len" rfl) (free 76 "repr" rfl) (free 71 "sum" rfl) (free 65 "int" rfl)
  have G_law_odd := TB.ok_oddL (P := P) (w := w) (mg := mg) (base := base) F23 G_law_draw b18 F18.kp (glo 41 "_law_draw" rfl)
  have G_law_wrong := TB.ok_wrongL (P := P) (w := w) (mg := mg) (base := base) (CT := He.ga K "NoTriple") (CS := He.ga K "NoSize") (CO := He.ga K "NoOffset") F35 G_law_draw b18 F18.kp (glo 41 "_law_draw" rfl) G_law_odd b23 F23.kp (glo 46 "_law_odd" rfl) (free 68 "list" rfl) (free 70 "len" rfl) (free 65 "int" rfl)
  have G_is_whole_spWhole1 := TB.ok_whole (P := P) (w := w) (mg := mg) (base := base) F0 (free 64 "isinstance" rfl) (free 65 "int" rfl) (free 66 "bool" rfl)
  have G_is_size_spIsSize1 := TB.ok_isSize (P := P) (w := w) (mg := mg) (base := base) F2 G_is_whole_spWhole1 b0 F0.kp (glo 23 "is_whole" rfl) gi_HIGHEST_SIZE
  have G_need_sizes_spNeed2 := TB.ok_need (P := P) (w := w) (mg := mg) (base := base) F4 G_is_size_spIsSize1 b2 F2.kp (glo 25 "is_size" rfl) XT_NoSize
  have G_is_odd := TC.ok_odd (P := P) (w := w) (mg := mg) (base := base) F1
  have G_is_offset_spIsOffV1 := TB.ok_isOffV (P := P) (w := w) (mg := mg) (base := base) F3 G_is_whole_spWhole1 b0 F0.kp (glo 23 "is_whole" rfl) G_is_odd b1 F1.kp (glo 24 "is_odd" rfl)
  have G_need_pairs_spNeedP3 := TB.ok_needP (P := P) (w := w) (mg := mg) (base := base) F5 G_need_sizes_spNeed2 b4 F4.kp (glo 27 "need_sizes" rfl) G_is_offset_spIsOffV1 b3 F3.kp (glo 26 "is_offset" rfl) (free 64 "isinstance" rfl) (free 73 "tuple" rfl) (free 70 "len" rfl) XT_NoSize XT_NoOffset
  have G_can_join := TC.ok_canJoin (P := P) (w := w) (mg := mg) (base := base) F6 G_is_odd b1 F1.kp (glo 24 "is_odd" rfl)
  have G_need_square_spNeedSqX1 := TB.ok_needSqX (P := P) (w := w) (mg := mg) (base := base) F10 G_can_join b6 F6.kp (glo 29 "can_join" rfl) XT_NoTriple
  have G_square_with := TC.ok_squareWith (P := P) (w := w) (mg := mg) (base := base) F11
  have G_square_of_spSqOfX4 := TB.ok_sqOfX (P := P) (w := w) (mg := mg) (base := base) F7 G_need_pairs_spNeedP3 b5 F5.kp (glo 28 "need_pairs" rfl) G_need_square_spNeedSqX1 b10 F10.kp (glo 33 "need_square" rfl) G_square_with b11 F11.kp (glo 34 "square_with" rfl)
  have G_square_of_triple := TB.ok_sqTX (P := P) (w := w) (mg := mg) (base := base) F9 G_square_of_spSqOfX4 b7 F7.kp (glo 30 "square_of" rfl) XT_NoTriple (free 64 "isinstance" rfl) (free 73 "tuple" rfl) (free 70 "len" rfl)
  have G_exchanged := TC.ok_exchanged (P := P) (w := w) (mg := mg) (base := base) F14 (free 73 "tuple" rfl)
  have G_square_behind := TC.ok_behind (P := P) (w := w) (mg := mg) (base := base) F13 G_exchanged b14 F14.kp (glo 37 "exchanged" rfl) (free 73 "tuple" rfl) (free 77 "zip" rfl)
  have G_sign_along := TC.ok_signAlong (P := P) (w := w) (mg := mg) (base := base) F15 G_is_odd b1 F1.kp (glo 24 "is_odd" rfl) (free 71 "sum" rfl) (free 70 "len" rfl)
  have G_all_ways := TC.ok_allWays (P := P) (w := w) (mg := mg) (base := base) F12 (ordK_ok xo) (glo 83 "ORDERS" rfl) (free 72 "sorted" rfl) (free 70 "len" rfl)
  have G_least_square := TC.ok_leastSq (P := P) (w := w) (mg := mg) (base := base) F16 G_square_behind b13 F13.kp (glo 36 "square_behind" rfl) G_sign_along b15 F15.kp (glo 38 "sign_along" rfl) G_all_ways b12 F12.kp (glo 35 "all_ways" rfl) (free 74 "min" rfl)
  have G_alike_threes := TB.ok_alike (P := P) (w := w) (mg := mg) (base := base) F8 G_square_of_triple b9 F9.kp (glo 32 "square_of_triple" rfl) G_square_behind b13 F13.kp (glo 36 "square_behind" rfl) G_sign_along b15 F15.kp (glo 38 "sign_along" rfl) G_least_square b16 F16.kp (glo 39 "least_square" rfl) G_all_ways b12 F12.kp (glo 35 "all_ways" rfl)
  have G_law_word := TC.ok_word (P := P) (w := w) (mg := mg) (base := base) F19 WT
  exact TB.ok_law F36 ⟨G_law_pen, b17, F17.kp, (glo 40 "_law_pen" rfl), G_law_draw, b18, F18.kp, (glo 41 "_law_draw" rfl), G_law_triple, b31, F31.kp, (glo 54 "_law_triple" rfl), G_law_square, b26, F26.kp, (glo 49 "_law_square" rfl), G_law_forms, b29, F29.kp, (glo 52 "_law_forms" rfl), G_law_least, b30, F30.kp, (glo 53 "_law_least" rfl), G_law_other, b34, F34.kp, (glo 57 "_law_other" rfl), G_law_steps_right, b33, F33.kp, (glo 56 "_law_steps_right" rfl), G_law_wrong, b35, F35.kp, (glo 58 "_law_wrong" rfl), G_alike_threes, b8, F8.kp, (glo 31 "alike_threes" rfl), G_law_word, b19, F19.kp, (glo 42 "_law_word" rfl), F20, b20, (glo 43 "_law_said" rfl), ST, kdS, hxS, kdT, hxT, kdO, hxO, (free 69 "range" rfl), (free 64 "isinstance" rfl), (free 73 "tuple" rfl), (free 70 "len" rfl), (free 76 "repr" rfl)⟩ TBb
end TC
open PySem PySem.W PySem.Calls PyProof.Rows
set_option maxHeartbeats 0 in
theorem PySem.Challenge.cw_turncouple_k18_whole_alike_threes_holds : PySem.Challenge.rw_turncouple_k18_whole_alike_threes.Holds := by
  refine lookAt fun said => ?_
  refine HandSHeadRun.head_any (r := OpenLaw.row PySem.Challenge.rw_turncouple_k18_whole_alike_threes) (q := view (OpenLaw.row PySem.Challenge.rw_turncouple_k18_whole_alike_threes).prog [66]) (H := TC.hk) (ob := TC.ob) (M := 30000) (loose := TC.loose) (d := HandSHeadRun.topDef (OpenLaw.row PySem.Challenge.rw_turncouple_k18_whole_alike_threes).prog 66) (kwd := []) TC.ob_eq
    (by kernel_rfl) (fun s => by kernel_rfl) TC.run (by kernel_rfl) (by kernel_rfl) (by kernel_rfl) (by rfl) (by first | assumption | decide +kernel) (by decide +kernel) ⟨rfl, rfl, rfl, rfl, rfl, by decide +kernel⟩ ?hw ?hc
  case hw => w_witness2
  case hc =>
    refine TCX.walk_ofG (l := PySem.Challenge.rw_turncouple_k18_whole_alike_threes) (n := 63) (k := 10) (x := "_law_script") (CX := fun _ => L2.CX0) rfl (by decide) (by kernel_rfl) ⟨rfl, by decide, by decide⟩ ?F (fun _ _ _ _ _ z => z)
    intro w mg fa h Y G hmg0
    obtain ⟨K, KX, sx⟩ := Y
    have hmg : mg ("law" : PySem.Str) = some (.ref fa) := by
      have e : (HandSHeadRun.topDef (OpenLaw.row PySem.Challenge.rw_turncouple_k18_whole_alike_threes).prog 66).name = ("law" : PySem.Str) := by kernel_rfl
      rw [← e]
      exact hmg0
    obtain ⟨fd, hb, hF⟩ := TC.facts (P := (PySem.Challenge.rw_turncouple_k18_whole_alike_threes).prog) (w := w) KX G hmg sx
    refine ⟨K, KX, fd, [He.cT K ("law", none)], TB.spLaw K, fun p hp => ?_, fun p hp => ?_, fun p hp => ?_, hb, fun H a ns hl hT hS => ⟨a, ns, rfl, hS, hl, hT _ (List.mem_singleton.mpr rfl), fun _ => rfl⟩, fun base h1 h2 h3 => hF base h1 h2 (h3 _ (List.mem_singleton.mpr rfl))⟩
    · rw [List.mem_singleton.mp hp]
      exact sx.empty _ (List.mem_singleton.mpr rfl)
    · rw [List.mem_singleton.mp hp]
      exact sx.out _ (List.mem_singleton.mpr rfl)
    · rw [List.mem_singleton.mp hp]
      exact PySem.W.codeHd_of_K KX (sx.hd _ (List.mem_singleton.mpr rfl))
